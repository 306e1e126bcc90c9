package sendq

import (
	"iter"
	"slices"

	"bollard/api"
)

// entry is a chunk, and what has become of it.
type entry struct {
	chunk   api.Chunk
	message *message
	state   int
	sent    int // how often
	last    int // when
	missed  int // how often, since it was sent
}

// message is what the entries of one share.
type message struct {
	until, tries int
	given        bool
}

func (e *entry) octets() int { return len(e.chunk.Data) }

func (e *entry) waits() bool { return e.state == Waiting }

// open tells that an entry is still to come.
func (e *entry) open() bool { return e.state != Came && e.state != Given }

func (e *entry) send(now int) {
	e.state, e.last, e.missed = Flying, now, 0
	e.sent++
}

// expired tells whether an entry that is open is a reason to give up its message.
func (e *entry) expired(now int) bool {
	m := e.message
	late := m.until >= 0 && m.until < now
	often := m.tries >= 0 && e.state == Lost && e.sent > m.tries
	return late || often
}

// in hands on those of entries that are in one of some states, in order.
func in(l []*entry, states ...int) iter.Seq[*entry] {
	return func(yield func(*entry) bool) {
		for _, e := range l {
			if slices.Contains(states, e.state) && !yield(e) {
				return
			}
		}
	}
}

// due hands on those of entries that are to be sent: what is lost has been waited for longest.
func due(l []*entry) iter.Seq[*entry] {
	return func(yield func(*entry) bool) {
		for _, state := range [...]int{Lost, Waiting} {
			for e := range in(l, state) {
				if !yield(e) {
					return
				}
			}
		}
	}
}

// sum sums what a method tells of each entry.
func sum(l iter.Seq[*entry], tell func(*entry) int) int {
	n := 0
	for e := range l {
		n += tell(e)
	}
	return n
}

// reaches tells of each height the farthest end of the blocks that begin there or below: the height lies in a block, if that end is no less.
func reaches(blocks []api.Block) []uint16 {
	reach := make([]uint16, most+1)
	for _, b := range blocks {
		if b.From <= most {
			reach[b.From] = max(reach[b.From], b.To)
		}
	}
	for h := range most {
		reach[h+1] = max(reach[h+1], reach[h])
	}
	return reach
}

// skipping are streams and numbers to be skipped, and a chunk's as well.
func skipping(skips []api.Skip, c api.Chunk) []api.Skip {
	for i := range skips {
		if skips[i].Stream == c.Out {
			skips[i].Ssn = c.In
			return skips
		}
	}
	return append(skips, api.Skip{Stream: c.Out, Ssn: c.In})
}

// unfit tells that a chunk can not stand in a queue.
func unfit(c api.Chunk) bool { return c.Kind != api.Data || len(c.Data) == 0 }

// copied is a chunk in memory of its own.
func copied(c api.Chunk) api.Chunk {
	c.Blocks, c.Dups, c.Skips = slices.Clone(c.Blocks), slices.Clone(c.Dups), slices.Clone(c.Skips)
	c.Params, c.Data = slices.Clone(c.Params), slices.Clone(c.Data)
	for i := range c.Params {
		c.Params[i].V = slices.Clone(c.Params[i].V)
	}
	return c
}
