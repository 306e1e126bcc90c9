package join_test

import (
	"testing"

	"bollard/api"
	"bollard/join"
)

// P14.4: what is whole but not ready of that stream is dropped, and its next number is 0; what is ready stays, pieces stay, other streams stay.
func TestReset(t *testing.T) {
	for _, next := range shorts {
		p := start(t, 3)
		p.to(next, 1, 2)
		p.ok(single(1, 1, next, 1), single(2, 1, next+2, 2, 2), single(3, 1, next+3, 3), single(4, 2, next+1, 4), piece(5, 1, next+1, begin, 5))
		p.ok(piece(6, 1, next+2, begin|loose, 6), piece(9, 1, 1, begin, 9), piece(12, 1, 5, alone|loose, 8))
		p.holds(9)
		p.reset(1)
		p.holds(6)
		p.reset(1)
		p.holds(6)
		p.ok(single(13, 1, 2, 13), single(14, 1, 1, 14))
		p.ok(single(14, 2, next, 15))
		p.takes(text(1, 1), freely(1, 8), text(2, 15), text(2, 4))
		p.ok(single(14, 1, 0, 16))
		p.takes(text(1, 16), text(1, 14), text(1, 13))
		p.ok(piece(7, 1, next+2, end|loose, 7))
		p.takes(freely(1, 6, 7))
		p.holds(2)
		p.forward(0, hop(1, 6))
		p.ok(single(15, 1, 7, 17))
		p.takes(text(1, 17))
	}
}

// P14.4: pieces that were held stay, and are a message of the stream that began anew, with the number that they have.
func TestResetKeepsPieces(t *testing.T) {
	p := start(t, 2)
	p.ok(single(1, 1, 0, 1), single(2, 1, 1, 2), piece(10, 1, 2, begin, 3), piece(12, 1, 2, end, 4))
	p.takes(text(1, 1), text(1, 2))
	p.reset(1)
	p.holds(2)
	p.refused(api.ErrState, single(10, 1, 0, 9))
	p.ok(single(3, 1, 0, 5), piece(11, 1, 2, 0, 6))
	p.takes(text(1, 5))
	p.holds(3)
	p.ok(single(4, 1, 1, 7))
	p.takes(text(1, 7), text(1, 3, 6, 4))
}

// P14.4: a number that was dropped by Reset may wait again; one that was told may be told again.
func TestResetBeginsAnew(t *testing.T) {
	p := start(t, 2)
	for round := range byte(5) {
		p.ok(single(1, 1, 1, round, 1), single(2, 1, 2, round, 2), single(1, 1, 4, round, 4))
		p.holds(6)
		if round%2 == 1 {
			p.ok(single(2, 1, 0, round, 0))
			p.holds(8)
			p.takes(text(1, round, 0), text(1, round, 1), text(1, round, 2))
			p.holds(2)
		}
		p.reset(1)
		p.holds(0)
		p.takes()
	}
}

// P14.4: what is ready stays, and its number may come again ahead of Take: by then nothing with that number waits.
func TestResetAheadOfTake(t *testing.T) {
	p := start(t, 2)
	p.ok(single(1, 1, 0, 1), single(2, 1, 1, 2))
	p.reset(1)
	p.ok(single(3, 1, 1, 3), single(4, 1, 0, 4))
	p.holds(4)
	p.takes(text(1, 1), text(1, 2), text(1, 4), text(1, 3))
	p.holds(0)
}

// P14.4: all that wait of a stream are dropped, be they many, near or far.
func TestResetOfMany(t *testing.T) {
	j := join.New(3)
	for i := range uint32(20000) {
		j.Add(single(i, 1, uint16(i+1), 1))
		j.Add(single(i, 2, uint16(i+1), 2))
	}
	j.Reset(1)
	if j.Held() != 20000 {
		t.Errorf("Held is %d", j.Held())
	}
	j.Add(single(1, 1, 0, 9))
	j.Add(single(1, 2, 0, 8))
	l := j.Take()
	if len(l) != 20002 || l[0].Data[0] != 9 || l[1].Data[0] != 8 || l[20001].Stream != 2 || j.Held() != 0 {
		t.Errorf("there are %d, Held %d", len(l), j.Held())
	}
}

// P14.4: a stream that is none.
func TestResetOfNoStream(t *testing.T) {
	for _, stream := range []uint16{2, 3, 64, 255, 256, 257, half16, half16 + 1, topShort - 1, topShort} {
		p := start(t, 2)
		p.ok(single(1, 1, 0, 1), single(2, 1, 2, 2), piece(3, 0, 0, begin, 3), single(5, 0, 1, 4))
		p.reset(stream)
		p.holds(4)
		p.ok(single(6, 1, 1, 5), piece(4, 0, 0, end, 6))
		p.takes(text(1, 1), text(1, 5), text(1, 2), text(0, 3, 6), text(0, 4))
	}
}

// P14.4: Take tells each message once, in order, and Held is less by their octets; what is not ready stays.
func TestTake(t *testing.T) {
	p := start(t, 3)
	p.takes()
	p.ok(single(1, 1, 0, 1, 1), single(2, 2, 1, 2), piece(3, 1, 1, begin, 3, 3, 3), piece(7, 0, 0, alone|loose, 4))
	p.holds(7)
	p.takes(text(1, 1, 1), freely(0, 4))
	p.holds(4)
	p.takes()
	p.ok(piece(4, 1, 1, end, 5))
	p.holds(5)
	p.takes(text(1, 3, 3, 3, 5))
	p.holds(1)
	p.takes()
	p.ok(single(8, 2, 0, 6))
	p.holds(2)
	p.takes(text(2, 6), text(2, 2))
	p.holds(0)
	p.takes()
}

// P14.2 to P14.4: all calls of a nil Join.
func TestNil(t *testing.T) {
	var j *join.Join
	for _, tsn := range numbers {
		for _, number := range shorts {
			for flags := range 8 {
				if got := j.Add(piece(tsn, number, number, uint8(flags), 1)); got != api.ErrArg {
					t.Fatalf("nil: Add is %v", got)
				}
			}
			j.Forward(tsn, nil)
			j.Forward(tsn, []api.Skip{hop(0, number), hop(number, 5)})
			j.Reset(number)
			if l := j.Take(); len(l) != 0 || j.Held() != 0 {
				t.Fatalf("nil: there are %v, Held %d", l, j.Held())
			}
		}
	}
	if got := j.Add(api.Chunk{}); got != api.ErrArg {
		t.Errorf("nil: Add of nothing is %v", got)
	}
}

// P1: a Join that nobody made by New has no streams, and none of its calls panics.
func TestZeroValue(t *testing.T) {
	for _, j := range []*join.Join{{}, new(join.Join)} {
		for _, number := range shorts {
			if got := j.Add(single(uint32(number), number, 0, 1)); got != api.ErrName {
				t.Errorf("Add is %v", got)
			}
			j.Forward(uint32(number), []api.Skip{hop(0, number), hop(number, 0)})
			j.Reset(number)
		}
		if got := j.Add(piece(0, 0, 0, 0)); got != api.ErrArg {
			t.Errorf("Add of no Data is %v", got)
		}
		if l := j.Take(); len(l) != 0 || j.Held() != 0 {
			t.Errorf("there are %v, Held %d", l, j.Held())
		}
	}
}
