package xfer_test

import (
	"testing"

	"bollard/api"
	"bollard/xfer"
)

// P16.1: each error by itself; nothing is kept then.
func TestSendErrors(t *testing.T) {
	for _, x := range []struct {
		name string
		m    api.Message
		want api.Errno
	}{
		{"a stream that is Out", text(2, 1), api.ErrName}, {"a stream beyond", text(3, 1), api.ErrName}, {"the last stream", text(65535, 1), api.ErrName}, {"a stream that is none, without order", freely(2, 1), api.ErrName},
		{"no Data", text(1, 0), api.ErrArg}, {"Data that is nil", api.Message{}, api.ErrArg}, {"no Data, without order", freely(0, 0), api.ErrArg},
		{"too much Data", text(1, 16385), api.ErrLarge}, {"much too much Data", text(1, 100000), api.ErrLarge},
	} {
		p := usual(t)
		p.refuses(x.want, x.m)
		p.idle(true)
		p.tells(0)
		p.stands()
		p.send(text(1, 1))
		p.tells(0, flight(100, 0, text(1, 1)))
		if t.Failed() {
			t.Fatal(x.name)
		}
	}
}

// P16.1: a nil End tells ErrArg, whatever is sent.
func TestSendOfNil(t *testing.T) {
	var x *xfer.End
	for _, m := range []api.Message{text(0, 1), text(99, 1), {}, text(0, 16385), text(99, 16385), freely(0, 3)} {
		for _, n := range []int{least, -1, 0, 1, latest, greatest} {
			if got := x.Send(m, n, n, n); got != api.ErrArg {
				t.Errorf("Send is %v", got)
			}
		}
	}
}

// filled is a pair whose queue has 65536 octets left.
func filled(t *testing.T) *pair {
	t.Helper()
	p := usual(t)
	p.send(texts(16384, 16384, 16384, 16384)...)
	return p
}

// P16.1: what is left and Data together at 65536, and one above.
func TestSendLeft(t *testing.T) {
	for _, x := range []struct {
		ahead []int
		n     int
		want  api.Errno
	}{
		{[]int{16384, 16384, 16384, 16383}, 1, api.OK}, {[]int{16384, 16384, 16384, 16383}, 2, api.ErrFull},
		{[]int{16384, 16384, 16384}, 16384, api.OK}, {[]int{16384, 16384, 16384, 1}, 16384, api.ErrFull},
		{[]int{16384, 16384, 16384, 1}, 16383, api.OK}, {[]int{16384, 16384, 16384, 16384}, 1, api.ErrFull}, {[]int{16384, 16384, 16384, 16384}, 16384, api.ErrFull},
	} {
		c := config()
		c.Mtu = 1200
		p := start(t, c)
		p.send(texts(x.ahead...)...)
		if got := p.sends(text(1, x.n), always, always, 0); got != x.want {
			t.Errorf("over %v Send of %d is %v, want %v", x.ahead, x.n, got, x.want)
		}
	}
}

// P16.1: what flies is not left any more; what is lost is, and what has come goes away.
func TestSendLeftAsItFlies(t *testing.T) {
	p := filled(t)
	p.refuses(api.ErrFull, text(1, 1))
	p.flies(0, 100, 101, 102)
	p.refuses(api.ErrFull, text(1, 301))
	p.send(text(1, 300))
	p.refuses(api.ErrFull, text(1, 1))
	p.tick(3000, true)
	p.refuses(api.ErrFull, text(1, 1))
	p.flies(3000, 100)
	p.refuses(api.ErrFull, text(1, 1))
	p.hear(3000, sack(102, 65536))
	p.refuses(api.ErrFull, text(1, 1))
	p.flies(3000, 103)
	p.refuses(api.ErrFull, text(1, 101))
	p.send(text(1, 100))
	p.refuses(api.ErrFull, text(1, 1))
}

// P16.1: Push says that there are 1024 entries; there is room again for as many as go away.
func TestSendEntries(t *testing.T) {
	p := usual(t)
	for range 1022 {
		p.send(text(0, 1))
	}
	p.refuses(api.ErrFull, text(1, 300))
	p.refuses(api.ErrFull, text(1, 201))
	p.send(text(1, 200))
	p.refuses(api.ErrFull, text(1, 1))
	p.refuses(api.ErrFull, freely(1, 1))
	p.tell(0)
	p.refuses(api.ErrFull, text(1, 1))
	p.hear(0, sack(100, 65536))
	p.refuses(api.ErrFull, text(1, 101))
	p.send(text(1, 1))
	p.refuses(api.ErrFull, text(1, 1))
}

// P16.1: of several errors the one named first.
func TestSendErrorsTogether(t *testing.T) {
	p := usual(t)
	p.refuses(api.ErrName, text(2, 0))
	p.refuses(api.ErrName, text(2, 16385))
	p = filled(t)
	p.refuses(api.ErrName, text(2, 0))
	p.refuses(api.ErrName, text(2, 1))
	p.refuses(api.ErrName, text(9, 16385))
	p.refuses(api.ErrArg, text(1, 0))
	p.refuses(api.ErrLarge, text(1, 16385))
	p.refuses(api.ErrFull, text(1, 16384))
	p = usual(t)
	for range 1024 {
		p.send(text(0, 1))
	}
	p.refuses(api.ErrName, text(2, 1))
	p.refuses(api.ErrArg, text(1, 0))
	p.refuses(api.ErrLarge, text(1, 16385))
	p.refuses(api.ErrFull, text(1, 1))
}

// drain tells all that is to be sent, each told to have come at once.
func (p *pair) drain(now int) []api.Chunk {
	p.t.Helper()
	var all []api.Chunk
	for {
		l := p.tell(now)
		if len(l) == 0 {
			return all
		}
		all = append(all, l...)
		p.hear(now, sack(l[len(l)-1].A, 65536))
	}
}

// P16.1: behind errors of all kinds the stream's next number is as it was.
func TestNumberBehindErrors(t *testing.T) {
	p := filled(t)
	for range 3 {
		p.refuses(api.ErrFull, text(0, 1))
		p.refuses(api.ErrFull, text(1, 1))
		p.refuses(api.ErrLarge, text(1, 16385))
		p.refuses(api.ErrArg, text(1, 0))
		p.refuses(api.ErrName, text(2, 1))
	}
	p.tell(0)
	p.send(text(1, 1), text(0, 1))
	p.hear(0, sack(102, 65536))
	l := p.drain(0)
	if last := l[len(l)-2:]; !sameChunks(last, []api.Chunk{flight(756, 0, text(1, 1)), flight(757, 4, text(0, 1))}) {
		t.Errorf("at last there are told %v", last)
	}
}

// P16.1: likewise behind Push's error.
func TestNumberBehindFullQueue(t *testing.T) {
	p := usual(t)
	for range 1023 {
		p.send(text(0, 1))
	}
	p.refuses(api.ErrFull, text(1, 101))
	p.refuses(api.ErrFull, text(0, 101))
	p.send(text(1, 100))
	p.refuses(api.ErrFull, text(1, 1))
	p.refuses(api.ErrFull, text(0, 1))
	l := p.drain(0)
	p.send(text(0, 1), text(1, 1))
	l = append(l, p.drain(0)...)
	if last := l[len(l)-4:]; !sameChunks(last, []api.Chunk{flight(1122, 1022, text(0, 1)), flight(1123, 0, text(1, 100)), flight(1124, 1023, text(0, 1)), flight(1125, 1, text(1, 1))}) {
		t.Errorf("at last there are told %v", last)
	}
}

// P16.1: an ordered message's number is one more than the one's ahead, of each stream by itself; one without order has none, and counts none.
func TestNumbersOfMessages(t *testing.T) {
	c := config()
	c.Out = 64
	p := start(t, c)
	p.send(text(5, 1), text(5, 2), freely(5, 3), text(63, 4), freely(0, 5), text(5, 6), text(0, 7), freely(63, 8), text(63, 9))
	p.tells(0,
		flight(100, 0, text(5, 1)), flight(101, 1, text(5, 2)), flight(102, 0, freely(5, 3)),
		flight(103, 0, text(63, 4)), flight(104, 0, freely(0, 5)), flight(105, 2, text(5, 6)),
		flight(106, 0, text(0, 7)), flight(107, 0, freely(63, 8)), flight(108, 1, text(63, 9)))
}

// P16.1: a message in pieces.
func TestPieces(t *testing.T) {
	p := usual(t)
	m := text(1, 250)
	m.Ppid = 77
	p.send(text(1, 1), m)
	want := piece(101, 1, 1, begin, m.Data[:100]...)
	middle, last := piece(102, 1, 1, 0, m.Data[100:200]...), piece(103, 1, 1, end, m.Data[200:]...)
	want.Ppid, middle.Ppid, last.Ppid = 77, 77, 77
	p.tells(0, flight(100, 0, text(1, 1)), want, middle, last)
	p = usual(t)
	m = freely(0, 101)
	p.send(m)
	p.tells(0, piece(100, 0, 0, begin|loose, m.Data[:100]...), piece(101, 0, 0, end|loose, m.Data[100]))
	p = usual(t)
	p.send(text(1, 100), text(1, 200))
	m = text(1, 200)
	p.tells(0, flight(100, 0, text(1, 100)), piece(101, 1, 1, begin, m.Data[:100]...), piece(102, 1, 1, end, m.Data[100:]...))
}

// P16.1: so small pieces that each has one octet.
func TestPiecesOfOneOctet(t *testing.T) {
	for _, mtu := range []int{1, 2, 28, 29} {
		c := config()
		c.Mtu = mtu
		p := start(t, c)
		m := text(1, 3)
		p.send(m)
		p.tells(0, piece(100, 1, 0, begin, m.Data[0]), piece(101, 1, 0, 0, m.Data[1]), piece(102, 1, 0, end, m.Data[2]))
		p.send(text(1, 1021))
		p.refuses(api.ErrFull, text(1, 1))
	}
}

// P16.1: a number goes round behind 2^16 - 1.
func TestNumberGoesRound(t *testing.T) {
	c := config()
	c.First = top - 100
	p := start(t, c)
	for sent := 0; sent < 65600; {
		for range 164 {
			if got := p.end.Send(text(1, 1), always, always, 0); got != api.OK {
				t.Fatal(got)
			}
		}
		for _, c := range p.end.Tell(0) {
			if c.In != uint16(sent) || c.A != top-100+uint32(sent) {
				t.Fatalf("the %dth message has the number %d", sent, c.In)
			}
			sent++
		}
		if got := p.end.Hear(sack(p.end.Next()-1, 65536), 0); got != api.OK {
			t.Fatal(got)
		}
	}
}

// gone asks that a message that was sent is told at a time, and given up one later.
func gone(t *testing.T, life, now, last int) {
	t.Helper()
	for _, early := range []int{0, last} {
		p := usual(t)
		p.sendFor(text(1, 1), life, always, now)
		p.tells(early, flight(100, 0, text(1, 1)))
	}
	p := usual(t)
	p.sendFor(text(1, 1), life, always, now)
	p.tells(last+1, forward(100, hop(1, 0)))
}

// P16.1: a message is worth sending until now and life together, times taken as the nearer one of 0 and 2^40.
func TestLife(t *testing.T) {
	for _, x := range []struct{ life, now, last int }{
		{0, 0, 0}, {0, 10, 10}, {1, 10, 11}, {50, 10, 60}, {1000, 3, 1003}, {0, -1, 0}, {0, least, 0}, {5, -100, 5}, {7, least, 7},
		{0, latest - 1, latest - 1}, {1, latest - 2, latest - 1}, {latest - 1, 0, latest - 1}, {latest - 1, -9, latest - 1}, {latest - 5, 3, latest - 2},
	} {
		gone(t, x.life, x.now, x.last)
	}
}

// P16.1: with a life below 0, and with one that ends at 2^40 or later, nothing is given up, at whatever time.
func TestLifeWithoutEnd(t *testing.T) {
	for _, x := range []struct{ life, now int }{
		{-1, 0}, {-2, 0}, {least, 0}, {-1, latest}, {least, least}, {-5, 100}, {-100, 5},
		{latest, 0}, {latest + 1, 0}, {1 << 41, 0}, {greatest, 0}, {greatest, greatest}, {latest, latest}, {latest, least}, {greatest, -1}, {0, latest}, {0, latest + 1}, {0, greatest}, {5, greatest}, {1, latest - 1},
	} {
		for _, at := range []int{0, 1, latest - 1, latest, latest + 1, greatest} {
			p := usual(t)
			p.sendFor(text(1, 1), x.life, always, x.now)
			p.tells(at, flight(100, 0, text(1, 1)))
		}
	}
}

// P16.1: tries are how often a message is told once more when it is lost.
func TestTries(t *testing.T) {
	for _, tries := range []int{0, 1, 2, 5} {
		p := usual(t)
		p.sendFor(text(1, 1), always, tries, 0)
		now := 0
		for range tries + 1 {
			p.tells(now, flight(100, 0, text(1, 1)))
			now, _ = p.end.Due()
			p.tick(now, true)
		}
		p.tells(now, forward(100, hop(1, 0)))
	}
	for _, tries := range []int{-1, -2, least, greatest} {
		p := usual(t)
		p.sendFor(text(1, 1), always, tries, 0)
		for now := range 12 {
			p.tells(100000*now, flight(100, 0, text(1, 1)))
			p.tick(100000*now+99999, true)
		}
		p.failed(12)
	}
}
