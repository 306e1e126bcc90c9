package xfer_test

import (
	"testing"

	"bollard/api"
	"bollard/xfer"
)

// P16.1: an End that is new begins from its numbers, and has nothing to do.
func TestNew(t *testing.T) {
	for _, first := range firsts {
		for _, peer := range firsts {
			p := start(t, xfer.Config{First: first, PeerFirst: peer, Room: 65536, Out: 2, In: 2, Mtu: 1200})
			if p.end.Next() != first || p.end.Cum() != peer-1 {
				t.Errorf("of %d and %d Next is %d, Cum %d", first, peer, p.end.Next(), p.end.Cum())
			}
			p.stands()
			p.idle(true)
			p.failed(0)
			p.has()
			p.tells(5)
			p.tick(latest, false)
			p.stands()
		}
	}
}

// P16.1: the first number that is told is First, the first one that is to come PeerFirst.
func TestFirstNumbers(t *testing.T) {
	for _, first := range firsts {
		for _, peer := range firsts {
			p := start(t, xfer.Config{First: first, PeerFirst: peer, Room: 65536, Out: 2, In: 2, Mtu: 1200})
			p.send(texts(3, 4)...)
			p.tells(0, flight(first, 0, text(0, 3)), flight(first+1, 1, text(0, 4)))
			p.hear(0, flight(peer, 0, text(0, 5)))
			p.cum(peer)
			p.has(text(0, 5))
			p.tells(0, sack(peer, 65536))
		}
	}
}

// streams are numbers of streams, and how many there are then.
var streams = []struct{ number, want int }{
	{least, 64}, {-65, 64}, {-1, 64}, {0, 64}, {1, 1}, {2, 2}, {63, 63}, {64, 64}, {65, 64}, {1000, 64}, {65536, 64}, {1 << 32, 64}, {greatest, 64},
}

// P16.1: Out that is not 1 to 64 is 64.
func TestOut(t *testing.T) {
	for _, x := range streams {
		c := config()
		c.Out = x.number
		p := start(t, c)
		p.send(text(0, 1), text(uint16(x.want-1), 1))
		p.refuses(api.ErrName, text(uint16(x.want), 1))
		p.refuses(api.ErrName, text(64, 1))
		p.refuses(api.ErrName, text(65535, 1))
	}
}

// P16.1: In is taken as join takes it.
func TestIn(t *testing.T) {
	for _, x := range streams {
		c := config()
		c.In = x.number
		p := start(t, c)
		p.hear(0, flight(7, 0, text(uint16(x.want-1), 1)))
		p.has(text(uint16(x.want-1), 1))
		p.wrong(api.ErrName, flight(8, 0, text(uint16(x.want), 1)))
		p.wrong(api.ErrName, flight(8, 0, text(65535, 1)))
	}
}

// mtus are numbers, the length of a piece then, and how many octets fly at first.
var mtus = []struct{ number, piece, window int }{
	{least, 1172, 3600}, {-1, 1172, 3600}, {0, 1172, 3600}, {1, 1, 3}, {2, 1, 6}, {27, 1, 81}, {28, 1, 84}, {29, 1, 87}, {30, 2, 90}, {31, 3, 93}, {128, 100, 384}, {528, 500, 1584},
	{1199, 1171, 3597}, {1200, 1172, 3600}, {1201, 1172, 3603}, {2400, 1172, 7200}, {65536, 1172, 196608}, {65537, 1172, 3600}, {greatest, 1172, 3600},
}

// P16.1: pieces have the least of 1172 and the window's Mtu less 28 octets, at least 1; by the window it is told how many fly.
func TestMtu(t *testing.T) {
	for _, x := range mtus {
		c := config()
		c.Mtu = x.number
		p := start(t, c)
		n := min(16384, 1000*x.piece)
		p.send(text(0, n))
		l := p.tell(0)
		octets := 0
		for i, c := range l {
			octets += len(c.Data)
			if len(c.Data) != x.piece && octets < n {
				t.Errorf("of Mtu %d the %dth piece has %d octets, want %d", x.number, i, len(c.Data), x.piece)
			}
		}
		if octets > x.window || octets < n && octets+x.piece <= x.window {
			t.Errorf("of Mtu %d fly %d octets, want %d", x.number, octets, x.window)
		}
	}
}

// P16.4: the peer's room is Room at first; of a lesser room than an Mtu one Mtu flies, as a probe.
func TestRoom(t *testing.T) {
	for _, x := range []struct {
		room uint32
		want int
	}{
		{0, 1}, {1, 1}, {99, 1}, {100, 1}, {128, 1}, {199, 1}, {200, 2}, {299, 2}, {300, 3}, {383, 3}, {384, 3}, {65536, 3}, {half, 3}, {top, 3},
	} {
		c := config()
		c.Room = x.room
		p := start(t, c)
		p.send(text(0, 1000))
		if l := p.tell(0); len(l) != x.want {
			t.Errorf("of the room %d there are told %d chunks, want %d", x.room, len(l), x.want)
		}
		p.tells(0)
	}
}
