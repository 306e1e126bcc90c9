package assoc_test

import (
	"testing"

	"bollard/api"
	"bollard/assoc"
)

// P17.4: what is told in each state of which nothing is due: nothing, and nothing changes, at whatever time.
func TestTellOfNothing(t *testing.T) {
	for _, state := range states() {
		if state == closing || state == shutHeard {
			continue
		}
		kept(t, state, func(s *side) {
			for _, now := range []int{least, -1, 0, 3000, 100000, latest, greatest} {
				s.tells(now)
			}
		})
	}
}

// P17.4: what the End tells is told in Open, Closing, ShutSent, ShutHeard and ShutAcked.
func TestTellOfEnd(t *testing.T) {
	for _, state := range states()[open:done] {
		s := usual(t, state)
		s.hearsChunks(mine, 0, flight(peerFirst, 0, text(0, 3)))
		s.tells(0, sack(peerFirst, 65533))
		s.tells(0)
		s.state(state)
	}
	s := usual(t, open)
	s.hear(0, flight(peerFirst, 0, text(0, 3)), api.Chunk{Kind: 6})
	s.tells(0)
}

// P17.4: Closing goes on to ShutSent only when nothing is left to be sent, in the Tell that finds it so.
func TestClosing(t *testing.T) {
	s := usual(t, open)
	s.send(text(0, 90), text(0, 80), text(0, 70), text(0, 60))
	s.close(0)
	data := func(n uint32, number uint16, octets int) api.Chunk { return flight(mine+n, number, text(0, octets)) }
	s.tells(0, data(0, 0, 90), data(1, 1, 80), data(2, 2, 70), data(3, 3, 60))
	s.state(closing)
	s.hear(10, sack(mine+2, 65536))
	s.tells(10)
	s.state(closing)
	s.tick(10000)
	s.tells(10000, data(3, 3, 60))
	s.state(closing)
	s.hear(10001, sack(mine+3, 65536))
	s.state(closing)
	s.tick(10002)
	s.state(closing)
	s.tells(10003, shutdown(peerFirst-1))
	s.state(shutSent)
	s.tells(10003)
	s.tick(13002)
	s.tells(13002)
	s.tick(13003)
	s.tells(13003, shutdown(peerFirst-1))
}

// P17.4: an answer that is owed is told ahead of the question whether anything is left, and stands behind the Shutdown; the Shutdown's A is up to where all has come.
func TestClosingOwes(t *testing.T) {
	s := usual(t, open)
	s.hear(0, flight(peerFirst, 0, text(0, 3)), flight(peerFirst+1, 1, text(0, 3)), flight(peerFirst+3, 2, text(0, 3)))
	s.close(0)
	blocks := sack(peerFirst+1, 65527)
	blocks.Blocks = []api.Block{{From: 2, To: 2}}
	s.tells(0, shutdown(peerFirst+1), blocks)
	s.state(shutSent)
}

// P17.4: likewise in ShutHeard: the ShutdownAck.
func TestShutHeardOwes(t *testing.T) {
	s := usual(t, open)
	s.hear(0, flight(peerFirst, 0, text(0, 3)), shutdown(0))
	s.state(shutHeard)
	s.tells(5, api.Chunk{Kind: 8}, sack(peerFirst, 65533))
	s.state(shutAcked)
	s.tells(5)
	s.tick(3004)
	s.tells(3004)
	s.tick(3005)
	s.tells(3005, api.Chunk{Kind: 8})
}

// P17.4: in Open nothing goes on, and in ShutSent and ShutAcked nothing goes on once more.
func TestNothingGoesOn(t *testing.T) {
	for _, state := range []int{open, shutSent, shutAcked} {
		s := usual(t, state)
		for now := range 5 {
			s.tells(now)
		}
		s.state(state)
	}
}

// P17.4: what timers say stands ahead of what the End tells, in the order of their numbers.
func TestOrder(t *testing.T) {
	s := usual(t, open)
	s.hear(0, flight(peerFirst, 0, text(0, 3)))
	s.restart(0, 1)
	s.send(text(0, 3))
	s.tells(0, ask(mine+1, mine-1, 1), sack(peerFirst, 65533), flight(mine, 0, text(0, 3)))
	s.hear(0, sack(mine, 65536), flight(peerFirst+1, 1, text(0, 3)))
	s.tick(3000)
	s.close(3000)
	s.tells(3000, shutdown(peerFirst+1), ask(mine+1, mine-1, 1), sack(peerFirst+1, 65530))
	s.state(shutSent)

	s = usual(t, open)
	s.restart(0, 1)
	s.hear(0, flight(peerFirst, 0, text(0, 3)), shutdown(0))
	s.tells(0, api.Chunk{Kind: 8}, ask(mine+1, mine-1, 1), sack(peerFirst, 65533))
}

// P17.4: chunks are bundled: as many in a packet as it has room for.
func TestBundled(t *testing.T) {
	c := config()
	c.Mtu = 1200
	s := in(t, c, open)
	s.restart(0, 1)
	for range 7 {
		s.send(text(0, 484)) // 500 octets as a chunk
	}
	l := s.tell(0)
	var counts []int
	next := uint32(mine)
	for n, p := range l {
		counts = append(counts, len(p.Chunks))
		if p.Tag != theirs || p.From != port || p.To != peer {
			t.Errorf("the packet is %v", p)
		}
		for i, c := range p.Chunks {
			if n+i == 0 {
				continue
			}
			if c.Kind != api.Data || c.A != next {
				t.Errorf("there is told %v, want the number %d", c, next)
			}
			next++
		}
	}
	if len(counts) != 4 || counts[0] != 3 || counts[1] != 2 || counts[2] != 2 || counts[3] != 1 {
		t.Errorf("in the packets are %v chunks", counts)
	}
}

// P17.4: Tell of nil: nothing.
func TestTellOfNil(t *testing.T) {
	var a *assoc.Assoc
	for _, now := range []int{least, 0, greatest} {
		if l := a.Tell(now); len(l) != 0 {
			t.Errorf("Tell is %v", l)
		}
	}
}

// P17.4: times that are out of bounds are taken as the nearer bound.
func TestTellTimes(t *testing.T) {
	for _, x := range [][2]int{{-5, 3000}, {least, 3000}, {0, 3000}, {latest - 3000, latest}} {
		s := usual(t, open)
		s.close(0)
		s.tells(x[0], shutdown(peerFirst-1))
		s.tick(x[1] - 1)
		s.tells(x[1] - 1)
		s.tick(x[1])
		s.tells(x[1], shutdown(peerFirst-1))
	}
	for _, now := range []int{latest, latest + 1, greatest} {
		s := usual(t, open)
		s.close(0)
		s.tells(now, shutdown(peerFirst-1))
		s.tick(greatest)
		s.tells(greatest)
	}
}
