package join_test

import (
	"testing"

	"bollard/api"
	"bollard/join"
)

// P14.1: a number that is not 1 to 64 is 64; the streams are those below it.
func TestNew(t *testing.T) {
	for _, x := range []struct{ streams, want int }{
		{least, 64}, {least + 1, 64}, {-64, 64}, {-1, 64}, {0, 64}, {1, 1}, {2, 2}, {3, 3}, {63, 63}, {64, 64}, {65, 64}, {66, 64},
		{128, 64}, {256, 64}, {257, 64}, {65536, 64}, {65537, 64}, {1 << 32, 64}, {1<<32 + 1, 64}, {greatest, 64},
	} {
		j := join.New(x.streams)
		if j == nil || j.Held() != 0 || len(j.Take()) != 0 {
			t.Fatalf("New(%d) is %v", x.streams, j)
		}
		for stream := range 65536 {
			want := api.ErrName
			if stream < x.want {
				want = api.OK
			}
			if got := j.Add(single(uint32(stream), uint16(stream), 0, 9)); got != want {
				t.Fatalf("of New(%d): Add to the stream %d is %v, want %v", x.streams, stream, got, want)
			}
		}
		if l := j.Take(); len(l) != x.want || l[x.want-1].Stream != uint16(x.want-1) {
			t.Errorf("of New(%d): there are %v", x.streams, l)
		}
	}
}

// P14.1: all numbers about the limits.
func TestNewOfMany(t *testing.T) {
	for streams := -10; streams < 200; streams++ {
		want := streams
		if streams < 1 || streams > 64 {
			want = 64
		}
		j := join.New(streams)
		last := j.Add(single(1, uint16(want-1), 0, 9))
		none := j.Add(single(2, uint16(want), 0, 9))
		if last != api.OK || none != api.ErrName || j.Held() != 1 {
			t.Errorf("of New(%d): the stream %d is %v, the next one %v", streams, want-1, last, none)
		}
	}
}

// fault is a way in which a chunk, or a Join, may not be.
type fault struct {
	name string
	err  api.Errno
	turn func(c *api.Chunk)
}

// faults stand in the order in which they are named. A Join that is nil, or full, is made so by its maker.
var faults = []fault{
	{"a nil Join", api.ErrArg, func(c *api.Chunk) {}},
	{"another kind", api.ErrArg, func(c *api.Chunk) { c.Kind = api.Init }},
	{"no Data", api.ErrArg, func(c *api.Chunk) { c.Data = nil }},
	{"empty Data", api.ErrArg, func(c *api.Chunk) { c.Data = c.Data[:0] }},
	{"no such stream", api.ErrName, func(c *api.Chunk) { c.Out = 2 }},
	{"a number that is held", api.ErrState, func(c *api.Chunk) { c.A = 5 }},
	{"no room", api.ErrFull, func(c *api.Chunk) {}},
}

// of tells whether some of the faults, told by bits, have the one with a name.
func of(some int, name string) bool {
	for i, f := range faults {
		if f.name == name {
			return some>>i%2 == 1
		}
	}
	panic(name)
}

// holding is a pair with a piece that has the number 5, a message that waits, one that is ready, and room for as many octets.
func holding(t *testing.T, room int) *pair {
	p := start(t, 2)
	p.ok(piece(5, 1, 0, begin, 1), single(7, 1, 1, 2), piece(8, 0, 9, alone|loose, 3))
	p.ok(piece(20, 0, 3, begin, make([]byte, 65536-3-room)...))
	p.holds(65536 - room)
	return p
}

// stays asks that what holding holds is there as it was, and is told.
func (p *pair) stays() {
	p.t.Helper()
	p.refused(api.ErrState, single(5, 0, 0, 1))
	p.refused(api.ErrState, single(20, 0, 0, 1))
	p.takes(freely(0, 3))
	p.ok(piece(6, 1, 0, end, 4))
	p.takes(text(1, 1, 4), text(1, 2))
	p.forward(20)
	p.holds(0)
	p.ok(single(5, 0, 0, 5), single(9, 1, 2, 6))
	p.takes(text(0, 5), text(1, 6))
}

// P14.2, P1: each error alone, each two of them together, and all others together: the one named first; nothing is held, told or numbered otherwise then.
func TestErrors(t *testing.T) {
	for some := range 1 << len(faults) {
		room := 1
		if of(some, "no room") {
			room = 0
		}
		p, c, want, name := holding(t, room), single(9, 1, 2, 6), api.OK, "nothing"
		for i, f := range faults {
			if some>>i%2 == 0 {
				continue
			}
			f.turn(&c)
			if want == api.OK {
				want, name = f.err, f.name
			}
		}
		if of(some, "a nil Join") {
			var none *join.Join
			if got := none.Add(c); got != want {
				t.Errorf("%s: Add(%v) is %v", name, c, got)
			}
			continue
		}
		if want == api.OK {
			p.ok(c)
			continue
		}
		for range 3 {
			p.refused(want, c)
		}
		p.stays()
	}
}

// P14.2: of all kinds only Data is taken.
func TestKinds(t *testing.T) {
	p := start(t, 2)
	for kind := 1; kind < 256; kind++ {
		c := single(9, 1, 0, 6)
		c.Kind = uint8(kind)
		p.refused(api.ErrArg, c)
	}
	p.ok(single(9, 1, 0, 6))
	p.takes(text(1, 6))
}

// P14.2: a stream that is none has its error at all numbers.
func TestNoStream(t *testing.T) {
	p := start(t, 3)
	for _, stream := range []uint16{3, 4, 64, 255, 256, 257, 258, half16, half16 + 1, topShort - 1, topShort} {
		for flags := range 256 {
			p.refused(api.ErrName, piece(9, stream, 0, uint8(flags), 6))
		}
	}
	p.ok(single(9, 2, 0, 6))
	p.takes(text(2, 6))
}

// P14.2: a number that is held has its error, whatever else the chunk has.
func TestNumberIsHeld(t *testing.T) {
	for _, tsn := range numbers {
		p := start(t, 3)
		p.ok(piece(tsn, 1, 0, begin, 1))
		for flags := range 8 {
			for stream := range uint16(3) {
				p.refused(api.ErrState, piece(tsn, stream, uint16(flags), uint8(flags), 6, 7))
			}
		}
		p.ok(piece(tsn+2, 1, 0, end, 3))
		p.refused(api.ErrState, piece(tsn+2, 1, 0, end, 3))
		p.ok(piece(tsn+half, 2, 0, begin, 4), piece(tsn+65536, 2, 0, begin, 4))
		p.ok(piece(tsn+1, 1, 0, 0, 2))
		p.takes(text(1, 1, 2, 3))
	}
}

// P14.2: the number of a chunk whose message is whole, or that was dropped, is held no more: it may be taken again.
func TestNumberIsHeldNoMore(t *testing.T) {
	p := start(t, 2)
	p.ok(single(5, 1, 0, 1), single(5, 1, 1, 2)) // ready
	p.ok(single(6, 1, 3, 3), single(6, 0, 1, 4)) // waiting
	p.ok(single(7, 1, 0, 5), single(7, 0, 0, 6)) // dropped, as it is too late
	p.ok(single(8, 1, 3, 7), single(8, 1, 2, 8)) // dropped, as another one waits
	p.ok(piece(9, 1, 4, alone|loose, 9), piece(9, 1, 4, alone|loose, 10))
	p.takes(text(1, 1), text(1, 2), text(0, 6), text(0, 4), text(1, 8), text(1, 3), freely(1, 9), freely(1, 10))
	p.holds(0)
	p.ok(piece(10, 0, 5, begin, 1), piece(11, 0, 5, 0, 2))
	p.forward(10)
	p.ok(piece(10, 0, 5, begin, 3))
	p.refused(api.ErrState, piece(11, 0, 5, end, 4))
	p.ok(piece(12, 0, 5, end, 5))
	p.ok(piece(10, 0, 2, begin, 6), piece(11, 0, 2, 0, 7), piece(12, 0, 2, end, 8))
	p.takes(text(0, 6, 7, 8))
	p.holds(3)
}

// P14.2: Held and the Data together are 65536 at most, whatever is held.
func TestRoom(t *testing.T) {
	for _, x := range []struct {
		name string
		make func(p *pair, data ...byte)
		free func(p *pair)
	}{
		{"a piece", func(p *pair, data ...byte) { p.ok(piece(50, 0, 0, begin, data...)) }, func(p *pair) { p.forward(50) }},
		{"what waits", func(p *pair, data ...byte) { p.ok(single(50, 0, 1, data...)) }, func(p *pair) { p.reset(0) }},
		{"what is ready", func(p *pair, data ...byte) { p.ok(single(50, 0, 0, data...)) }, func(p *pair) { p.take() }},
	} {
		for _, n := range []int{1, 2, 1000, 1172, 65534, 65535, 65536} {
			p := start(t, 2)
			x.make(p, make([]byte, n)...)
			room := 65536 - n
			for _, more := range []int{room + 1, room + 2, room + 100, 65537, 70000, 200000} {
				for _, flags := range []uint8{0, begin, end, alone, alone | loose} {
					p.refused(api.ErrFull, piece(51, 1, 0, flags, make([]byte, more)...))
				}
			}
			if room > 0 {
				p.ok(single(51, 1, 0, make([]byte, room)...))
			}
			p.holds(65536)
			p.refused(api.ErrFull, single(52, 1, 1, 9))
			x.free(p)
			p.take()
			p.holds(0)
			p.ok(single(52, 1, p.words.next[1], make([]byte, 65536)...))
			p.refused(api.ErrFull, single(53, 1, 0, 9))
		}
	}
}

// P14.2: there is no room for what would be told or dropped at once, either, nor for what would make a message whole.
func TestNoRoomForWhatWouldGo(t *testing.T) {
	p := start(t, 2)
	p.ok(single(1, 1, 0, 5))
	p.takes(text(1, 5))
	p.ok(piece(7, 1, 1, begin, 1), piece(20, 0, 0, begin, make([]byte, 65534)...))
	p.refused(api.ErrFull, piece(8, 1, 1, end, 2, 3))
	p.refused(api.ErrFull, single(9, 1, 0, 2, 3))
	p.ok(single(9, 1, 0, 2), single(9, 1, 0, 2))
	p.ok(piece(8, 1, 1, end, 2))
	p.holds(65536)
	p.refused(api.ErrFull, single(9, 1, 0, 2))
	p.takes(text(1, 1, 2))
}

// P14.2: room that is all in use by very many chunks.
func TestRoomOfMany(t *testing.T) {
	j := join.New(1)
	for i := range uint32(65536) {
		if got := j.Add(piece(2*i+top-65535, 0, uint16(i), alone-begin, 7)); got != api.OK || j.Held() != int(i)+1 {
			t.Fatalf("the %dth is %v, Held %d", i, got, j.Held())
		}
	}
	if got := j.Add(single(1, 0, 0, 7)); got != api.ErrFull {
		t.Errorf("one more is %v", got)
	}
	if got := j.Add(single(top-65535, 0, 0, 7)); got != api.ErrState {
		t.Errorf("one that is held is %v", got)
	}
	j.Forward(top, nil)
	if j.Held() != 32768 {
		t.Errorf("behind Forward Held is %d", j.Held())
	}
}
