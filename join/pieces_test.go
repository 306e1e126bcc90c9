package join_test

import (
	"testing"

	"bollard/api"
)

// message3 are three pieces of a message of a stream and number.
func message3(tsn uint32, stream, number uint16, free uint8) []api.Chunk {
	return []api.Chunk{
		piece(tsn, stream, number, begin|free, 1, 2), piece(tsn+1, stream, number, free, 3), piece(tsn+2, stream, number, end|free, 4, 5, 6),
	}
}

// P14.2: one piece alone, with Begin and End, at all flags.
func TestAlone(t *testing.T) {
	for _, tsn := range numbers {
		p := start(t, 3)
		for flags := range 256 {
			f := uint8(flags)
			p.ok(piece(tsn, 2, p.words.next[2], f, 8, 9))
			switch {
			case f&alone != alone:
				p.takes()
				p.holds(2)
				p.forward(tsn)
			case f&loose != 0:
				p.takes(freely(2, 8, 9))
			default:
				p.takes(text(2, 8, 9))
			}
			p.holds(0)
		}
	}
}

// P14.2: each order in which the pieces of a message come; numbers go round.
func TestEveryOrderOfPieces(t *testing.T) {
	for _, tsn := range numbers {
		for _, free := range []uint8{0, loose} {
			l := message3(tsn, 1, 0, free)
			want := api.Message{Stream: 1, Unordered: free > 0, Ppid: ppid, Data: []byte{1, 2, 3, 4, 5, 6}}
			for _, order := range [][3]int{{0, 1, 2}, {0, 2, 1}, {1, 0, 2}, {1, 2, 0}, {2, 0, 1}, {2, 1, 0}} {
				p := start(t, 2)
				p.ok(l[order[0]])
				p.refused(api.ErrState, l[order[0]])
				p.ok(l[order[1]])
				p.refused(api.ErrState, l[order[0]])
				p.takes()
				p.holds(6 - len(l[order[2]].Data))
				p.ok(l[order[2]])
				p.holds(6)
				p.takes(want)
				p.holds(0)
			}
		}
	}
}

// permute hands on all orders of the numbers of a list.
func permute(list []int, from int, yield func([]int)) {
	if from == len(list) {
		yield(list)
		return
	}
	for i := from; i < len(list); i++ {
		list[from], list[i] = list[i], list[from]
		permute(list, from+1, yield)
		list[from], list[i] = list[i], list[from]
	}
}

// P14.2: two messages whose pieces stand beside each other, in each order of their pieces.
func TestTwoBesideEachOther(t *testing.T) {
	for _, tsn := range []uint32{100, half - 2, top - 3, top - 1} {
		l := append(message3(tsn, 1, 0, 0), message3(tsn+3, 1, 1, 0)...)
		free := append(message3(tsn, 1, 0, loose), message3(tsn+3, 1, 0, loose)...)
		for i := range 3 {
			l[3+i].Data = []byte{byte(7 + i)}
			free[3+i].Data = []byte{byte(7 + i)}
		}
		permute([]int{0, 1, 2, 3, 4, 5}, 0, func(order []int) {
			p, q, last := start(t, 2), start(t, 2), 0
			for i, n := range order {
				p.ok(l[n])
				q.ok(free[n])
				if n < 3 {
					last = i
				}
			}
			p.takes(text(1, 1, 2, 3, 4, 5, 6), text(1, 7, 8, 9))
			if last == 5 {
				q.takes(freely(1, 7, 8, 9), freely(1, 1, 2, 3, 4, 5, 6))
			} else {
				q.takes(freely(1, 1, 2, 3, 4, 5, 6), freely(1, 7, 8, 9))
			}
			p.holds(0)
			q.holds(0)
		})
	}
}

// P14.2: pieces that stand beside each other but do not follow, each condition broken alone, are no message: they stay held.
func TestDoNotFollow(t *testing.T) {
	for _, x := range []struct {
		name string
		turn func(a, b *api.Chunk)
	}{
		{"without order, with it", func(a, b *api.Chunk) { a.Flags |= loose }},
		{"with order, without it", func(a, b *api.Chunk) { b.Flags |= loose }},
		{"another In", func(a, b *api.Chunk) { b.In++ }},
		{"another In, less", func(a, b *api.Chunk) { a.In++ }},
		{"another Out", func(a, b *api.Chunk) { b.Out++ }},
		{"another Out, less", func(a, b *api.Chunk) { a.Out++ }},
		{"another Ppid", func(a, b *api.Chunk) { b.Ppid++ }},
		{"another Ppid, less", func(a, b *api.Chunk) { a.Ppid++ }},
		{"one number between", func(a, b *api.Chunk) { b.A++ }},
		{"exchanged", func(a, b *api.Chunk) { b.A = a.A - 1 }},
		{"half of the way round", func(a, b *api.Chunk) { b.A += half }},
		{"65536 numbers apart", func(a, b *api.Chunk) { b.A += 65536 }},
		{"neither Begin", func(a, b *api.Chunk) { a.Flags = 0 }},
		{"neither End", func(a, b *api.Chunk) { b.Flags = 0 }},
	} {
		for _, tsn := range numbers {
			for _, backwards := range []bool{false, true} {
				a, b := piece(tsn, 1, 0, begin, 1), piece(tsn+1, 1, 0, end, 2)
				x.turn(&a, &b)
				p := start(t, 3)
				if backwards {
					p.ok(b, a)
				} else {
					p.ok(a, b)
				}
				if got := p.join.Take(); len(got) != 0 || p.join.Held() != 2 {
					t.Errorf("%s: Take is %v, Held %d", x.name, got, p.join.Held())
				}
				p.refused(api.ErrState, a)
				p.refused(api.ErrState, b)
			}
		}
	}
}

// P14.2: behind an End, and ahead of a Begin, another message begins or ends, though all else fits.
func TestEndsBetween(t *testing.T) {
	for _, tsn := range numbers {
		p := start(t, 2)
		p.ok(piece(tsn, 1, 0, begin, 1), piece(tsn+2, 1, 0, end, 3))
		p.ok(piece(tsn+1, 1, 0, end, 2))
		p.takes(text(1, 1, 2))
		p.holds(1)
		p.ok(piece(tsn+1, 1, 1, begin, 4))
		p.takes()
		p.forward(tsn + 2)
		p.ok(piece(tsn, 1, 1, begin, 5), piece(tsn+2, 1, 1, end, 6))
		p.ok(piece(tsn+1, 1, 1, begin, 7))
		p.takes(text(1, 7, 6))
		p.holds(1)
		p.ok(piece(tsn+1, 1, 2, end, 8))
		p.takes()
		p.ok(piece(tsn+2, 1, 2, alone, 9))
		p.takes(text(1, 9))
		p.holds(2)
	}
}

// P14.2: a piece with both flags is a message, whatever stands beside it.
func TestAloneBetween(t *testing.T) {
	for _, tsn := range numbers {
		p := start(t, 2)
		p.ok(piece(tsn, 1, 0, begin, 1), piece(tsn+2, 1, 0, end, 3))
		p.ok(piece(tsn+1, 1, 0, alone, 2))
		p.takes(text(1, 2))
		p.ok(piece(tsn+1, 1, 0, alone|loose, 4))
		p.takes(freely(1, 4))
		p.holds(2)
		p.ok(piece(tsn+1, 1, 0, 0, 5))
		p.takes()
		p.holds(0)
	}
}

// P14.2: pieces without a Begin, or without an End, stay held, however many there are.
func TestNoBeginNoEnd(t *testing.T) {
	for _, tsn := range numbers {
		for _, x := range []struct{ first, last uint8 }{{0, 0}, {begin, 0}, {0, end}} {
			p := start(t, 2)
			p.ok(piece(tsn, 1, 0, x.first, 1), piece(tsn+9, 1, 0, x.last, 1))
			for i := uint32(8); i > 0; i-- {
				p.ok(piece(tsn+i, 1, 0, 0, 1))
			}
			p.takes()
			p.holds(10)
			for i := range uint32(10) {
				p.refused(api.ErrState, piece(tsn+i, 1, 0, alone, 1))
			}
			if x.first == 0 {
				p.ok(piece(tsn-1, 1, 0, begin, 2))
			}
			if x.last == 0 {
				p.takes()
				p.ok(piece(tsn+10, 1, 0, end, 3))
			}
			if l := p.take(); len(l) != 1 || p.join.Held() != 0 {
				t.Errorf("from %d on, %v: there are %v", tsn, x, l)
			}
		}
	}
}

// P14.2: a message is what its own pieces have: its stream, its Ppid, and whether it has an order.
func TestWhatAMessageHas(t *testing.T) {
	p := start(t, 64)
	for i, kind := range []uint32{0, 1, 50, 51, 1 << 16, half, top} {
		stream := uint16(9 * i)
		a, b := piece(40, stream, 0, begin, 1), piece(41, stream, 0, end, 2)
		a.Ppid, b.Ppid = kind, kind
		p.ok(b, a)
		p.takes(api.Message{Stream: stream, Ppid: kind, Data: []byte{1, 2}})
		a.Flags, b.Flags = begin|loose, end|loose
		p.ok(b, a)
		p.takes(api.Message{Stream: stream, Unordered: true, Ppid: kind, Data: []byte{1, 2}})
	}
}

// P14.2, R4: fields that the chapter does not name are not looked at, and of the flags only the three of split.
func TestOtherFields(t *testing.T) {
	for i, turnField := range []func(c *api.Chunk){
		func(c *api.Chunk) { c.B = 5 },
		func(c *api.Chunk) { c.Blocks = []api.Block{{From: 2, To: 3}} },
		func(c *api.Chunk) { c.Dups = []uint32{5} },
		func(c *api.Chunk) { c.Skips = []api.Skip{{Stream: 1, Ssn: 2}} },
		func(c *api.Chunk) { c.Params = []api.Param{{Kind: 7, V: []byte{9}}} },
		func(c *api.Chunk) { c.Flags |= 0xf8 },
		func(c *api.Chunk) { c.Flags |= 0x10 },
	} {
		p := start(t, 2)
		l := message3(top, 1, 0, 0)
		turnField(&l[i%3])
		p.ok(l[1], l[2], l[0])
		p.takes(text(1, 1, 2, 3, 4, 5, 6))
		p.holds(0)
	}
}
