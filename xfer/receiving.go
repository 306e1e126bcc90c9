package xfer

import (
	"bollard/api"
	"bollard/gaps"
	"bollard/join"
)

// farthest is the greatest height of a number that is taken in.
const farthest = 1024

// receiving is what comes in.
type receiving struct {
	set  *gaps.Set
	join *join.Join
	owed bool // an answer
}

func newReceiving(c Config) receiving {
	return receiving{set: gaps.New(c.PeerFirst), join: join.New(c.In)}
}

// receive takes in Data. What comes twice is not joined once more, but answered: the answer to the first one may be lost.
func (r *receiving) receive(c api.Chunk) api.Errno {
	if !r.set.Has(c.A) {
		if err := r.hold(c); err != api.OK {
			return err
		}
	}
	r.set.Add(c.A)
	r.owed = true
	return api.OK
}

// hold joins Data that is new, unless it is too far ahead.
func (r *receiving) hold(c api.Chunk) api.Errno {
	if r.height(c.A) > farthest {
		return api.ErrFull
	}
	return r.join.Add(c)
}

// skip goes on behind what the peer has given up.
func (r *receiving) skip(c api.Chunk) {
	if h := r.height(c.A); 0 < h && h < 1<<31 {
		r.set.Forward(c.A)
		r.join.Forward(c.A, c.Skips)
	}
	r.owed = true
}

// height is how many steps a number is above the floor, going round.
func (r *receiving) height(n uint32) uint32 { return n - r.set.Cum() }

// answer is the Sack that is owed, if one is.
func (r *receiving) answer() []api.Chunk {
	if !r.owed {
		return nil
	}
	r.owed = false
	return []api.Chunk{{
		Kind:   api.Sack,
		A:      r.set.Cum(),
		B:      uint32(most - r.join.Held()),
		Blocks: r.set.Blocks(),
		Dups:   r.set.Dups(),
	}}
}
