package assoc_test

import (
	"testing"

	"bollard/api"
	"bollard/assoc"
	"bollard/cookie"
)

// P17.1 to P17.5: of nil: ErrArg, nothing, Done, 0.
func TestNil(t *testing.T) {
	var a *assoc.Assoc
	for _, now := range []int{least, 0, greatest} {
		for name, err := range map[string]api.Errno{
			"Start": a.Start(now, 5), "Send": a.Send(text(0, 1), 1, 1, now), "Restart": a.Restart([]uint16{1}, now), "Restart of none": a.Restart(nil, now), "Close": a.Close(now),
		} {
			if err != api.ErrArg {
				t.Errorf("%s is %v", name, err)
			}
		}
		if len(a.Messages()) != 0 || len(a.Restarted()) != 0 || len(a.Performed()) != 0 || len(a.Abort()) != 0 || len(a.Tell(now)) != 0 {
			t.Errorf("of nil there is something")
		}
		a.Tick(now)
	}
	own, other := a.Tags()
	if a.State() != done || a.Times() != 0 || own != 0 || other != 0 {
		t.Errorf("State is %d, Times %d, Tags %d, %d", a.State(), a.Times(), own, other)
	}
}

// P1: an Assoc that nobody made by New does not panic.
func TestZeroValue(t *testing.T) {
	for kind := range 256 {
		for _, tag := range []uint32{0, 5} {
			var a assoc.Assoc
			for range 2 {
				a.Start(0, 5)
				for _, c := range []api.Chunk{{Kind: uint8(kind)}, full(uint8(kind))} {
					l, err := packetOf(0, 0, tag, c)
					if err == api.OK {
						a.Hear(l, 0, 5)
					}
				}
				a.Tell(0)
				a.Tick(greatest)
				a.Send(text(0, 1), 0, 0, 0)
				a.Messages()
				a.Restart([]uint16{1}, 0)
				a.Restarted()
				a.Performed()
				a.Close(0)
				a.State()
				a.Times()
				a.Tags()
			}
			a.Abort()
		}
	}
}

// P1: each call in each state, of arguments at all edges.
func TestEdges(t *testing.T) {
	edges := []int{least, least + 1, -latest, -1, 0, 1, 2999, 3000, latest - 1, latest, latest + 1, greatest - 1, greatest}
	for _, state := range states() {
		for _, now := range edges {
			for _, later := range edges {
				s := usual(t, state)
				s.start(now, 0)
				s.hears(s.packed(0, invitation()), now, 0)
				s.sends(text(0, 5), later, later, now)
				s.restarts(now, 1)
				s.tell(now)
				s.tick(later)
				s.tell(later)
				s.hearsChunks(mine, later, brought(t, cookie.State{Life: 1 << 48, Tag: mine, Peer: theirs}))
				s.hearsChunks(mine, now, welcome())
				s.hearsChunks(mine, later, sack(mine, 0))
				s.close(later)
				s.tick(later)
				s.tell(now)
				s.messages()
				s.streams()
			}
		}
	}
}

// P1: configs at all edges.
func TestConfigs(t *testing.T) {
	for _, n := range []int{least, -1, 0, 1, 64, 65, 1200, 65536, 65537, greatest} {
		for _, state := range states() {
			c := config()
			c.Streams, c.Mtu, c.Life = n, n, n
			s := in(t, c, state)
			s.hears(s.packed(0, invitation()), 0, 5)
			s.sends(text(0, 3000), always, always, 0)
			s.tell(0)
			s.hearsChunks(mine, 0, flight(peerFirst, 0, text(0, 1000)))
			s.tell(0)
			s.close(0)
			s.tick(greatest)
			s.tell(greatest)
			s.abort()
		}
	}
}
