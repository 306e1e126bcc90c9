package join_test

import (
	"testing"

	"bollard/api"
)

// hop is a skip.
func hop(stream, ssn uint16) api.Skip { return api.Skip{Stream: stream, Ssn: ssn} }

// P14.3: held chunks with the number n, or less than n, are dropped: no others, across 2^32 and up to half of the way round.
func TestForwardDropsPieces(t *testing.T) {
	steps := []uint32{0, 1, 2, 3, 1000, 65536, half - 2, half - 1, half, half + 1, half + 2, top - 65535, top - 2, top - 1, top}
	for _, n := range numbers {
		p, left := start(t, 2), 0
		for _, back := range steps {
			p.ok(piece(n-back, 1, 9, begin, 1))
			if back >= half {
				left++
			}
		}
		p.forward(n)
		p.holds(left)
		for _, back := range steps {
			if back >= half {
				p.refused(api.ErrState, piece(n-back, 1, 9, begin, 1))
			} else {
				p.ok(piece(n-back, 1, 9, begin, 1))
			}
		}
		p.takes()
	}
}

// P14.3: of a run that is cut by n, what is left goes on to be one: both when what was dropped comes again, and when it does not.
func TestForwardCutsRuns(t *testing.T) {
	for _, tsn := range numbers {
		for cut := range uint32(7) {
			p := start(t, 2)
			for _, i := range []uint32{3, 1, 2, 4, 6, 5} {
				p.ok(piece(tsn+i, 1, 0, 0, byte(i)))
			}
			p.forward(tsn + cut)
			p.holds(6 - int(cut))
			p.ok(piece(tsn+7, 1, 0, end, 7))
			p.takes()
			if cut < 6 {
				p.ok(piece(tsn+cut, 1, 0, begin, 9))
				var want []byte
				for i := cut + 1; i < 8; i++ {
					want = append(want, byte(i))
				}
				p.takes(text(1, append([]byte{9}, want...)...))
				continue
			}
			for _, i := range []uint32{2, 1, 4, 3, 5, 6} {
				p.ok(piece(tsn+i, 1, 0, 0, byte(i)))
			}
			p.ok(piece(tsn, 1, 0, begin, 9))
			p.takes(text(1, 9, 1, 2, 3, 4, 5, 6, 7))
		}
	}
}

// P14.3: likewise of a run that is cut half of the way round from n, where its end is dropped and its beginning is left.
func TestForwardCutsRunsHalfRound(t *testing.T) {
	for _, tsn := range numbers {
		for cut := range uint32(7) {
			p := start(t, 2)
			p.ok(piece(tsn, 1, 0, begin, 9))
			for _, i := range []uint32{3, 1, 2, 4, 6, 5} {
				p.ok(piece(tsn+i, 1, 0, 0, byte(i)))
			}
			p.forward(tsn + cut - half)
			p.holds(1 + int(cut))
			p.ok(piece(tsn+cut+1, 1, 0, end, 7))
			data := []byte{9, 1, 2, 3, 4, 5, 6}[:cut+1]
			p.takes(text(1, append(data, 7)...))
			p.holds(0)
		}
	}
}

// P14.3: pieces of messages without order, and of all streams, are dropped likewise, and what was dropped is not told.
func TestForwardDropsOfAllStreams(t *testing.T) {
	for _, n := range numbers {
		p := start(t, 4)
		p.ok(piece(n-3, 1, 0, begin, 1, 2), piece(n-1, 2, 0, begin|loose, 3), piece(n, 3, 5, 0, 4), piece(n+1, 3, 5, end, 5), piece(n+2, 1, 1, begin|loose, 6))
		p.holds(6)
		p.forward(n)
		p.holds(2)
		p.ok(piece(n-2, 1, 0, end, 7), piece(n, 2, 0, end|loose, 8))
		p.takes()
		p.holds(4)
		p.ok(piece(n-1, 2, 0, begin|loose, 9))
		p.takes(freely(2, 9, 8))
		p.forward(n + 2)
		p.holds(0)
	}
}

// P14.3: messages that are whole are not dropped by n, be it that they wait or that they are ready.
func TestForwardKeepsWhole(t *testing.T) {
	for _, n := range numbers {
		p := start(t, 3)
		p.ok(single(n, 1, 0, 1), single(n-1, 1, 2, 2), single(n-5, 2, 1, 3), piece(n-4, 2, 2, begin, 4), piece(n-3, 2, 2, end, 5))
		p.forward(n)
		p.forward(n + 1)
		p.forward(n + 1)
		p.holds(5)
		p.takes(text(1, 1))
		p.ok(single(n, 1, 1, 6), single(n, 2, 0, 7))
		p.takes(text(1, 6), text(1, 2), text(2, 7), text(2, 3), text(2, 4, 5))
	}
}

// P14.3: without skips, and of nil skips, no stream goes on, whatever was dropped.
func TestForwardWithoutSkips(t *testing.T) {
	for _, next := range shorts {
		p := start(t, 2)
		p.to(next, 1)
		p.ok(piece(10, 1, next, begin, 1), single(12, 1, next+1, 2))
		p.forward(11)
		p.holds(1)
		p.join.Forward(12, nil)
		p.join.Forward(12, []api.Skip{})
		p.holds(1)
		p.takes()
		p.ok(single(13, 1, next, 3))
		p.takes(text(1, 3), text(1, 2))
	}
}

// P14.3: skips of a stream that is none are nothing, and those beside them hold.
func TestSkipOfNoStream(t *testing.T) {
	p := start(t, 2)
	p.ok(single(1, 0, 1, 1), single(2, 1, 1, 2))
	p.forward(0, hop(2, 0), hop(64, 0), hop(257, 1), hop(topShort, topShort), hop(half16, 5))
	p.holds(2)
	p.takes()
	p.forward(0, hop(2, 0), hop(1, 0), hop(topShort, 0))
	p.takes(text(1, 2))
	p.ok(single(3, 0, 0, 3))
	p.takes(text(0, 3), text(0, 1))
}

// P14.3: skips of an Ssn by how far it stands from the next number: less, it is nothing; else the stream goes on behind it.
func TestSkipByDistance(t *testing.T) {
	for _, next := range shorts {
		for _, on := range []uint16{0, 1, 2, 3, 4, 5, 6, 100, 1000, half16 - 2, half16 - 1, half16, half16 + 1, half16 + 2, topShort - 1000, topShort - 1, topShort} {
			p := start(t, 3)
			p.to(next, 1, 2)
			p.ok(single(1, 1, next+5, 5), single(2, 1, next+2, 2), single(3, 1, next+3, 3), single(4, 2, next+1, 77))
			p.forward(1000, hop(1, next+on))
			p.holds(4)
			switch {
			case on > half16:
				p.takes()
				p.ok(single(5, 1, next, 0), single(6, 1, next+1, 1))
				p.takes(text(1, 0), text(1, 1), text(1, 2), text(1, 3))
			case on == 0:
				p.takes()
				p.ok(single(6, 1, next+1, 1))
				p.takes(text(1, 1), text(1, 2), text(1, 3))
			case on < 4:
				p.takes(text(1, 2), text(1, 3))
			default:
				p.takes(text(1, 2), text(1, 3), text(1, 5))
			}
			if 0 < on && on <= half16 {
				behind := max(on+1, 4)
				if on == 4 || on == 5 {
					behind = 6
				}
				p.ok(single(7, 1, next+behind-1, 8))
				p.ok(single(7, 1, next+behind, 9))
				if on > 3 {
					p.takes(text(1, 9))
				} else {
					p.takes(text(1, 9), text(1, 5))
				}
			}
			p.ok(single(8, 2, next, 76))
			p.takes(text(2, 76), text(2, 77))
		}
	}
}

// P14.3: far ahead, with some held and some missing in between: those held are ready, rising, whatever order they came in; then the stream goes on to tell those that wait from Ssn + 1 on.
func TestSkipFarAhead(t *testing.T) {
	for _, next := range shorts {
		p := start(t, 2)
		p.to(next, 1)
		for _, on := range []uint16{700, 3, 300, 299, 1, 701, 702, 704, 299, 500, 20000} {
			p.ok(single(uint32(on), 1, next+on, byte(on>>8), byte(on)))
		}
		p.forward(0, hop(1, next+699))
		p.takes(text(1, 0, 1), text(1, 0, 3), text(1, 1, 43), text(1, 1, 44), text(1, 1, 244), text(1, 2, 188), text(1, 2, 189), text(1, 2, 190))
		p.holds(4)
		p.ok(single(1, 1, next+500, 1), single(1, 1, next+703, 1))
		p.takes(text(1, 1), text(1, 2, 192))
		p.forward(0, hop(1, next+20000))
		p.takes(text(1, 78, 32))
		p.holds(0)
	}
}

// P14.3: two skips of one stream, either way round, and the same one twice: each by what the next number is then.
func TestSkipsOfOneStream(t *testing.T) {
	for _, next := range shorts {
		for _, skips := range [][]api.Skip{
			{hop(1, next+1), hop(1, next+4)}, {hop(1, next+4), hop(1, next+1)}, {hop(1, next+4), hop(1, next+4)}, {hop(1, next+4), hop(1, next), hop(0, 9), hop(1, next+3)},
		} {
			p := start(t, 2)
			p.to(next, 1)
			p.ok(single(1, 1, next+3, 3), single(2, 1, next, 0), single(3, 1, next+7, 7), single(4, 1, next+5, 5))
			p.forward(0, skips...)
			p.takes(text(1, 0), text(1, 3), text(1, 5))
			p.holds(1)
			p.forward(0, skips...)
			p.holds(1)
			p.ok(single(5, 1, next+6, 6))
			p.takes(text(1, 6), text(1, 7))
		}
	}
}

// P14.3: skips are taken in order: what becomes ready of several streams stands so; what was ready stands ahead.
func TestSkipsOfSeveralStreams(t *testing.T) {
	for _, next := range shorts {
		p := start(t, 4)
		p.to(next, 0, 1, 2)
		p.ok(single(1, 0, next+1, 1), single(2, 1, next+1, 2), single(3, 1, next+2, 3), single(4, 2, next+2, 4), piece(5, 3, 8, alone|loose, 5))
		p.forward(0, hop(2, next+2), hop(1, next), hop(9, next), hop(0, next+1))
		p.takes(freely(3, 5), text(2, 4), text(1, 2), text(1, 3), text(0, 1))
		p.ok(single(1, 0, next+2, 1), single(2, 1, next+3, 2), single(3, 2, next+3, 3))
		p.takes(text(0, 1), text(1, 2), text(2, 3))
	}
}

// P14.3: chunks are dropped ahead of the skips, and what is told is of one call or of two.
func TestForwardInOneAndInTwo(t *testing.T) {
	for _, next := range shorts {
		one, two := start(t, 2), start(t, 2)
		for _, p := range []*pair{one, two} {
			p.to(next, 1)
			p.ok(piece(5, 1, next, begin, 1), piece(6, 1, next, 0, 2), single(8, 1, next+1, 3), piece(9, 1, next+2, begin, 4))
		}
		one.forward(7, hop(1, next))
		two.forward(7)
		two.forward(7, hop(1, next))
		for _, p := range []*pair{one, two} {
			p.takes(text(1, 3))
			p.holds(1)
			p.ok(piece(10, 1, next+2, end, 5), piece(7, 1, next, end, 6))
			p.takes(text(1, 4, 5))
			p.holds(1)
		}
	}
}

// P14.3: a message whose number was skipped is dropped when it comes at last, in one piece or in several that were held all along.
func TestSkippedComesLate(t *testing.T) {
	for _, next := range shorts {
		p := start(t, 2)
		p.to(next, 1)
		p.ok(piece(50, 1, next+1, begin, 1))
		p.forward(10, hop(1, next+1))
		p.holds(1)
		p.ok(piece(51, 1, next+1, end, 2), single(9, 1, next, 3))
		p.holds(0)
		p.takes()
		p.ok(single(52, 1, next+2, 4))
		p.takes(text(1, 4))
	}
}

// P1: very many skips, near and far ones.
func TestVeryManySkips(t *testing.T) {
	p := start(t, 64)
	p.ok(single(1, 5, half16-1, 1), single(2, 5, half16, 2), single(3, 6, 3, 3))
	var near, far []api.Skip
	for i := range 100000 {
		near = append(near, hop(5, uint16(i%30000)))
		far = append(far, hop(uint16(i%70), uint16(i/70)*half16))
	}
	p.join.Forward(0, near)
	p.holds(3)
	p.join.Forward(0, far)
	if l := p.join.Take(); len(l) != 3 || p.join.Held() != 0 {
		t.Errorf("there are %v, Held %d", l, p.join.Held())
	}
}
