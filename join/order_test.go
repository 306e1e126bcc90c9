package join_test

import (
	"testing"

	"bollard/api"
	"bollard/join"
)

// The chapter's example.
func TestExample(t *testing.T) {
	j := join.New(1)
	j.Add(api.Chunk{Flags: 3, A: 2, In: 1, Data: []byte{20}})
	if l := j.Take(); len(l) != 0 {
		t.Errorf("ahead of its turn there is %v", l)
	}
	j.Add(api.Chunk{Flags: 3, A: 1, In: 0, Data: []byte{10}})
	l := j.Take()
	if !sameMessages(l, []api.Message{{Data: []byte{10}}, {Data: []byte{20}}}) {
		t.Errorf("there are %v", l)
	}
}

// P14.2: a message without order is ready at once, behind all that are, whatever else waits, and whatever its number.
func TestUnordered(t *testing.T) {
	for _, next := range shorts {
		p := start(t, 3)
		p.to(next, 1)
		p.ok(single(1, 1, next+1, 1), single(2, 1, next+2, 2))
		p.ok(piece(3, 1, next+1, alone|loose, 3))
		p.ok(piece(4, 1, next-1, alone|loose, 4), piece(4, 1, next, alone|loose, 5))
		p.ok(piece(6, 2, 7, begin|loose, 6), piece(7, 2, 7, end|loose, 7))
		p.holds(7)
		p.ok(single(8, 1, next, 8))
		p.ok(piece(9, 1, next, alone|loose, 9))
		p.takes(freely(1, 3), freely(1, 4), freely(1, 5), freely(2, 6, 7), text(1, 8), text(1, 1), text(1, 2), freely(1, 9))
		p.holds(0)
		p.ok(piece(9, 1, 0, alone|loose, 1), piece(9, 1, 0, alone|loose, 1), single(10, 1, next+3, 4))
		p.takes(freely(1, 1), freely(1, 1), text(1, 4))
	}
}

// P14.2: messages in their turn, and ahead of it, with those that waited behind them, in order; the number goes round at 2^16.
func TestOrdered(t *testing.T) {
	for _, next := range shorts {
		p := start(t, 2)
		p.to(next, 1)
		p.ok(single(1, 1, next, 1))
		p.takes(text(1, 1))
		p.ok(single(2, 1, next+3, 4), single(3, 1, next+2, 3), single(4, 1, next+5, 6))
		p.takes()
		p.holds(3)
		p.ok(single(5, 1, next+1, 2))
		p.holds(4)
		p.takes(text(1, 2), text(1, 3), text(1, 4))
		p.holds(1)
		p.ok(single(6, 1, next+4, 5))
		p.takes(text(1, 5), text(1, 6))
		p.holds(0)
		p.ok(single(7, 1, next+6, 7))
		p.takes(text(1, 7))
	}
}

// P14.2: a message whose number is less than the next one is dropped; of those that are not less, the farthest is half of the way round.
func TestTooLate(t *testing.T) {
	for _, next := range shorts {
		p := start(t, 2)
		p.to(next, 1)
		for i, back := range []uint16{1, 2, 3, 1000, half16 - 2, half16 - 1} {
			p.ok(single(uint32(i), 1, next-back, 1, 2))
			p.holds(0)
			p.ok(piece(uint32(i), 1, next-back, begin, 1, 2))
			p.holds(2)
			p.ok(piece(uint32(i)+1, 1, next-back, end, 3))
			p.holds(0)
			p.takes()
		}
		for i, on := range []uint16{half16, half16 - 1, half16 - 2, 1000, 2, 1} {
			p.ok(single(uint32(i), 1, next+on, byte(on>>8)))
			p.holds(i + 1)
			p.takes()
		}
		p.ok(single(1, 1, next, 9))
		p.takes(text(1, 9), text(1, 0), text(1, 0))
		p.holds(4)
		p.ok(single(1, 1, next, 9))
		p.takes()
		p.holds(4)
		p.forward(0, api.Skip{Stream: 1, Ssn: next + half16})
		p.takes(text(1, 3), text(1, 127), text(1, 127), text(1, 128))
	}
}

// P14.2: a second message of the same stream and number as one that waits is dropped; the first one stays as it is.
func TestSecondOne(t *testing.T) {
	for _, next := range shorts {
		p := start(t, 3)
		p.to(next, 1, 2)
		p.ok(single(1, 1, next+1, 1, 2, 3))
		p.ok(single(2, 1, next+1, 4, 5))
		p.holds(3)
		p.ok(piece(3, 1, next+1, begin, 6), piece(4, 1, next+1, end, 7, 8, 9))
		p.holds(3)
		p.ok(single(5, 2, next+1, 10))
		p.holds(4)
		p.takes()
		p.ok(single(6, 1, next, 11), single(7, 1, next, 12), single(7, 1, next+1, 13))
		p.takes(text(1, 11), text(1, 1, 2, 3))
		p.ok(single(8, 2, next, 14))
		p.takes(text(2, 14), text(2, 10))
		p.holds(0)
	}
}

// P14.2: all numbers all the way round, and on; each is too late once it was told.
func TestAllTheWayRound(t *testing.T) {
	j := join.New(2)
	for i := 0; i < 200000; i += 2 {
		number := uint16(i)
		j.Add(single(1, 1, number+1, byte(i+1)))
		j.Add(single(2, 1, number-1, 77))
		j.Add(single(3, 1, number, byte(i)))
		if l := j.Take(); len(l) != 2 || l[0].Data[0] != byte(i) || l[1].Data[0] != byte(i+1) || j.Held() != 0 {
			t.Fatalf("of %d there are %v, Held %d", i, l, j.Held())
		}
	}
}

// P14.2: each stream has numbers of its own; what is ready over several streams stands in the order in which it became ready.
func TestSeveralStreams(t *testing.T) {
	for _, next := range shorts {
		p := start(t, 64)
		p.to(next, 0, 5)
		p.to(next+1, 63)
		p.ok(single(1, 63, next+2, 1), single(2, 5, next+1, 2), single(3, 0, next+1, 3))
		p.takes()
		p.ok(single(4, 5, next, 4))
		p.ok(single(5, 63, next+1, 5))
		p.ok(piece(6, 0, 0, alone|loose, 6))
		p.ok(single(7, 0, next, 7), single(8, 63, next+3, 8), single(9, 5, next+2, 9))
		p.ok(single(10, 63, next, 10))
		p.takes(text(5, 4), text(5, 2), text(63, 5), text(63, 1), freely(0, 6), text(0, 7), text(0, 3), text(63, 8), text(5, 9))
		p.holds(0)
	}
}

// P14.2: a message is told where it becomes whole, not where its first piece came.
func TestOrderOfReadiness(t *testing.T) {
	p := start(t, 4)
	l, m := message3(10, 1, 0, 0), message3(20, 2, 0, loose)
	p.ok(l[0], m[0], single(30, 3, 0, 9), m[1], l[1], m[2], single(31, 3, 1, 8), l[2])
	p.takes(text(3, 9), freely(2, 1, 2, 3, 4, 5, 6), text(3, 8), text(1, 1, 2, 3, 4, 5, 6))
	p.holds(0)
}
