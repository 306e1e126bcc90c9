package sendq_test

import (
	"slices"
	"testing"

	"bollard/api"
	"bollard/sendq"
)

// The chapter's example.
func TestExample(t *testing.T) {
	q := sendq.New(5)
	q.Push([]api.Chunk{piece(0, 0, begin, 10), piece(0, 0, 0, 10), piece(0, 0, end, 10)}, -1, -1)
	l := q.Take(0, 25)
	if len(l) != 2 || l[0].A != 5 || l[1].A != 6 {
		t.Errorf("Take is %v", l)
	}
	if r, ok := q.Ack(5, nil, 40); !ok || r != (sendq.Result{Bytes: 10, Sample: 40, Moved: true}) {
		t.Errorf("Ack is %v, %v", r, ok)
	}
}

// P15.1: one that is new has nothing, Next is first, and Floor one ahead of it.
func TestNew(t *testing.T) {
	for _, first := range append(drawn(151, 50), firsts...) {
		p := start(t, first)
		q := p.queue
		if q.Next() != first || q.Floor() != first-1 || q.Len() != 0 || q.Left() != 0 || q.Flying() != 0 {
			t.Errorf("New(%d): Next is %d, Floor %d, Len %d, Left %d, Flying %d", first, q.Next(), q.Floor(), q.Len(), q.Left(), q.Flying())
		}
		p.takes(0, greatest)
		p.noForward()
		p.timeout(0)
		p.expire(greatest, 0)
		p.acks(sendq.Result{Sample: -1}, 0, 5)
		p.noAck(1)
		p.noAck(top)
	}
	if a, b := sendq.New(0), sendq.New(1); a.Floor() != top || b.Floor() != 0 || a.Next() != 0 || b.Next() != 1 {
		t.Errorf("New(0), New(1): Floor is %d, %d", a.Floor(), b.Floor())
	}
	if q := sendq.New(top); q.Floor() != top-1 || q.Next() != top {
		t.Errorf("New(%d): Floor is %d", top, q.Floor())
	}
}

// P15.1: entries stand one behind the other, Waiting, each with Next as its number, which goes round.
func TestPush(t *testing.T) {
	for _, first := range firsts {
		p := start(t, first)
		p.push(-1, -1, piece(1, 7, begin, 3), piece(1, 7, end, 4))
		p.states("WW")
		p.push(5, 0, piece(2, 9, alone|loose, 5))
		p.push(0, 3, piece(1, 8, begin, 6), piece(1, 8, 0, 7), piece(1, 8, end, 8))
		p.states("WWWWWW")
		q := p.queue
		if q.Next() != first+6 || q.Floor() != first-1 || q.Len() != 6 || q.Left() != 33 || q.Flying() != 0 {
			t.Errorf("Next is %d, Floor %d, Len %d, Left %d, Flying %d", q.Next(), q.Floor(), q.Len(), q.Left(), q.Flying())
		}
		for h := range uint32(6) {
			if got, ok := q.State(first + h); got != sendq.Waiting || !ok {
				t.Errorf("State is %d, %v", got, ok)
			}
		}
		p.takes(9, 100, 1, 2, 3, 4, 5, 6)
	}
}

// P15.1: from 2^32 - 1 the next number is 0.
func TestNumbersGoRound(t *testing.T) {
	q := sendq.New(top)
	q.Push([]api.Chunk{data(1), data(1)}, -1, -1)
	l := q.Take(0, 2)
	if q.Next() != 1 || q.Floor() != top-1 || len(l) != 2 || l[0].A != top || l[1].A != 0 {
		t.Errorf("Next is %d, Floor %d, Take %v", q.Next(), q.Floor(), l)
	}
	if r, ok := q.Ack(0, nil, 0); !ok || r.Bytes != 2 || q.Floor() != 0 || q.Len() != 0 {
		t.Errorf("Ack is %v, %v, Floor %d", r, ok, q.Floor())
	}
}

// P15.1: the numbers that were handed in are not looked at.
func TestNumbersHandedIn(t *testing.T) {
	for _, first := range firsts {
		p := start(t, first)
		var l []api.Chunk
		for i, n := range append([]uint32{first + 1, first, first, first - 1}, firsts...) {
			c := piece(uint16(i), uint16(2*i), alone, 1+i)
			c.A = n
			l = append(l, c)
		}
		p.push(-1, -1, l...)
		for i, c := range p.take(0, 10000) {
			if c.A != first+uint32(i) || c.Out != uint16(i) || len(c.Data) != 1+i {
				t.Fatalf("the %dth is %v", i, c)
			}
		}
	}
}

// full is a chunk that has all that a chunk can have.
func full() api.Chunk {
	c := piece(65535, 65534, 255, 6)
	c.A, c.B, c.Ppid = 70, 71, 72
	c.Blocks, c.Dups, c.Skips = []api.Block{{From: 1, To: 2}, {From: 3, To: 4}}, []uint32{5, 6}, []api.Skip{{Stream: 7, Ssn: 8}}
	c.Params = []api.Param{{Kind: 9, V: []byte{10, 11}}, {Kind: 12}, {Kind: 13, V: []byte{14}}}
	return c
}

// P15.1, P15.2: but for its number a chunk is told as it was.
func TestChunksAsTheyWere(t *testing.T) {
	p := start(t, 5)
	p.push(-1, -1, full(), data(1), full())
	l := p.take(0, 100)
	want := full()
	want.A = 5
	behind := full()
	behind.A = 7
	one := data(1)
	one.A = 6
	if !sameChunks(l, []api.Chunk{want, one, behind}) {
		t.Errorf("Take is %v", l)
	}
}

// P15.1: an empty list, and a nil one.
func TestPushOfNothing(t *testing.T) {
	p := start(t, 5)
	p.tens(2)
	p.refused(api.ErrArg)
	if got := p.queue.Push(nil, -1, -1); got != api.ErrArg {
		t.Errorf("Push(nil) is %v", got)
	}
	if got := p.queue.Push([]api.Chunk{}, 5, 6); got != api.ErrArg {
		t.Errorf("Push of an empty list is %v", got)
	}
	p.states("WW")
}

// P15.1: a chunk that is not of the Kind Data, or has no Data, at each place of the list.
func TestPushOfUnfitChunks(t *testing.T) {
	for kind := 1; kind < 256; kind++ {
		p := start(t, top)
		p.tens(1)
		c := data(10)
		c.Kind = uint8(kind)
		p.refused(api.ErrArg, c)
		p.states("W")
	}
	for count := 1; count < 6; count++ {
		for at := range count {
			for _, unfit := range []func(c *api.Chunk){
				func(c *api.Chunk) { c.Kind = api.Sack },
				func(c *api.Chunk) { c.Data = nil },
				func(c *api.Chunk) { c.Data = c.Data[:0] },
				func(c *api.Chunk) { c.Kind, c.Data = 255, nil },
			} {
				p := start(t, top-1)
				p.tens(2)
				l := slices.Repeat([]api.Chunk{data(10)}, count)
				unfit(&l[at])
				p.refused(api.ErrArg, l...)
				p.states("WW")
				p.tens(1)
				p.takes(0, 100, 1, 2, 3)
			}
		}
	}
}

// P15.1: a nil Queue, whatever is pushed.
func TestPushOfNil(t *testing.T) {
	var q *sendq.Queue
	for _, l := range [][]api.Chunk{nil, {}, {data(1)}, {{}}, slices.Repeat([]api.Chunk{data(1)}, 1025)} {
		if got := q.Push(l, -1, -1); got != api.ErrArg {
			t.Errorf("Push of %d chunks is %v", len(l), got)
		}
	}
}

// many are as many chunks of one octet.
func many(count int) []api.Chunk { return slices.Repeat([]api.Chunk{data(1)}, count) }

// P15.1: 1024 entries are taken, 1025 are not, in one Push and over several.
func TestFull(t *testing.T) {
	for _, parts := range [][]int{{1024}, {1023, 1}, {1, 1023}, {512, 512}, {1000, 20, 4}, {300, 300, 300, 100, 24}} {
		p := start(t, top-500)
		for _, count := range parts {
			room := 1024 - p.queue.Len()
			p.refused(api.ErrFull, many(room+1)...)
			p.refused(api.ErrFull, many(2000)...)
			p.push(-1, -1, many(count)...)
		}
		p.refused(api.ErrFull, data(1))
		p.refused(api.ErrFull, many(1024)...)
		p.refused(api.ErrArg)
		if q := p.queue; q.Len() != 1024 || q.Next() != 523 || q.Floor() != top-501 || q.Left() != 1024 {
			t.Errorf("Len is %d, Next %d, Floor %d", q.Len(), q.Next(), q.Floor())
		}
		p.take(0, 1024)
		p.refused(api.ErrFull, data(1))
		p.acks(sendq.Result{Bytes: 3, Sample: 2, Moved: true}, 3, 2)
		p.refused(api.ErrFull, many(4)...)
		p.push(-1, -1, many(3)...)
		p.refused(api.ErrFull, data(1))
		p.acks(sendq.Result{Bytes: 1021, Sample: 5, Moved: true}, 1021, 5)
		p.states("WWW")
		p.push(-1, -1, many(1021)...)
		p.refused(api.ErrFull, data(1))
	}
}

// P15.1: entries that Came or are Given take room as well, as long as they are there.
func TestFullOfAllStates(t *testing.T) {
	p := laid(t, 7, "CGLFCGGW")
	p.refused(api.ErrFull, many(1017)...)
	p.push(-1, -1, many(1016)...)
	p.refused(api.ErrFull, data(1))
}

// P15.1, P1: of both errors together the one named first.
func TestBothErrors(t *testing.T) {
	for _, before := range []int{0, 1, 1000, 1024} {
		p := start(t, 3)
		if before > 0 {
			p.push(-1, -1, many(before)...)
		}
		for _, at := range []int{0, 1, 500, 1023, 1024} {
			for _, c := range []api.Chunk{{Kind: api.Data}, {Kind: api.Init, Data: []byte{1}}} {
				l := many(1025)
				l[at] = c
				p.refused(api.ErrArg, l...)
			}
		}
		p.refused(api.ErrFull, many(1025)...)
		if q := p.queue; q.Len() != before || q.Next() != 3+uint32(before) {
			t.Errorf("Len is %d, Next %d", q.Len(), q.Next())
		}
	}
}

// P15.1: behind an error the next message has the number that the one that was not taken would have had.
func TestNextBehindErrors(t *testing.T) {
	for _, first := range firsts {
		p := start(t, first)
		p.refused(api.ErrArg, data(1), api.Chunk{})
		p.refused(api.ErrFull, many(1025)...)
		p.tens(1)
		p.refused(api.ErrArg, api.Chunk{}, data(1))
		p.refused(api.ErrFull, many(1024)...)
		p.tens(1)
		if l := p.take(0, 20); len(l) != 2 || l[0].A != first || l[1].A != first+1 {
			t.Errorf("Take is %v", l)
		}
	}
}

// A Queue that nobody made by New is one from 0 on.
func TestZeroValue(t *testing.T) {
	var q sendq.Queue
	if q.Next() != 0 || q.Floor() != top || q.Len() != 0 || q.Push(many(3), -1, -1) != api.OK {
		t.Errorf("Next is %d, Floor %d, Len %d", q.Next(), q.Floor(), q.Len())
	}
	if l := q.Take(0, 2); len(l) != 2 || l[1].A != 1 || q.Left() != 1 {
		t.Errorf("Take is %v", l)
	}
}
