package assoc_test

import (
	"testing"

	"bollard/api"
)

// P17.5: Close: in Open Closing; else ErrState, and nothing changes.
func TestClose(t *testing.T) {
	for _, state := range states() {
		if state == open {
			continue
		}
		kept(t, state, func(s *side) {
			for _, now := range []int{least, 0, greatest} {
				if err := s.close(now); err != api.ErrState {
					t.Errorf("in the state %d Close is %v", state, err)
				}
			}
		})
	}
	s := usual(t, open)
	if err := s.close(5); err != api.OK {
		t.Errorf("Close is %v", err)
	}
	s.state(closing)
	if err := s.close(5); err != api.ErrState {
		t.Errorf("a second Close is %v", err)
	}
	if err := s.sends(text(0, 1), always, always, 0); err != api.ErrState {
		t.Errorf("Send is %v", err)
	}
}

// P17.5: Abort: nothing in Closed and Done; else Done, and an Abort under the other side's tag, if there is one.
func TestAbort(t *testing.T) {
	for _, state := range states() {
		s := usual(t, state)
		l := s.abort()
		switch state {
		case closed, done:
			s.are(l)
			s.state(state)
			continue
		case waiting:
			s.are(l)
			s.tags(mine, 0, 0)
		default:
			s.are(l, api.Chunk{Kind: 6})
			s.tags(mine, theirs, 1)
		}
		s.state(done)
		if l := s.abort(); len(l) != 0 {
			t.Errorf("a second Abort is %v", l)
		}
	}
}

// P17.2, P17.5: in Done nothing is told any more, whatever was to be told, and no time brings anything about.
func TestNothingInDone(t *testing.T) {
	for name, call := range map[string]func(s *side){
		"Abort":       func(s *side) { s.abort() },
		"an Abort":    func(s *side) { s.hear(0, api.Chunk{Kind: 6}) },
		"a flagged":   func(s *side) { s.hearsChunks(s.w.theirs, 0, api.Chunk{Kind: 6, Flags: 1}) },
		"ShutdownAck": func(s *side) { s.close(0); s.tick(0); s.tell(0); s.hearsChunks(mine, 0, api.Chunk{Kind: 8}) },
	} {
		for _, state := range []int{waiting, echoed, open} {
			if state < open && name == "ShutdownAck" || state == waiting && name == "a flagged" {
				continue
			}
			s := usual(t, state)
			if state == open {
				s.restart(0, 1)
			}
			if state == open && name != "ShutdownAck" {
				s.send(text(0, 5))
				s.hear(0, flight(peerFirst, 0, text(0, 1)))
			}
			s.tick(3000)
			call(s)
			s.state(done)
			for now := 3000; now < 500000; now += 5000 {
				s.tells(now)
				s.tick(now)
			}
			s.state(done)
		}
	}
}

// P17.2: Shutdown, ShutdownAck, ShutdownDone: the way of one side, and of the other one.
func TestShutdown(t *testing.T) {
	s := usual(t, open)
	s.hear(0, flight(peerFirst, 0, text(0, 1)))
	s.close(0)
	s.state(closing)
	s.tells(0, shutdown(peerFirst), sack(peerFirst, 65535))
	s.state(shutSent)
	s.answers(0, []api.Chunk{{Kind: 8}}, api.Chunk{Kind: 14})
	s.state(done)

	s = usual(t, open)
	s.hear(0, shutdown(mine-1))
	s.state(shutHeard)
	s.tells(0, api.Chunk{Kind: 8})
	s.state(shutAcked)
	s.hear(0, api.Chunk{Kind: 14})
	s.state(done)
}

// P17.2: both sides end at once: ShutSent, ShutAcked, and a ShutdownAck of the other side ends it.
func TestBothShutDown(t *testing.T) {
	s := usual(t, shutSent)
	s.hear(0, shutdown(0))
	s.state(shutAcked)
	s.tells(0, api.Chunk{Kind: 8})
	s.tells(0)
	s.answers(0, []api.Chunk{{Kind: 8}}, api.Chunk{Kind: 14})
	s.state(done)

	s = usual(t, shutSent)
	s.tick(3000)
	s.hear(3000, shutdown(0))
	s.tells(3000, api.Chunk{Kind: 8})
	s.tick(5999)
	s.tells(5999)
	s.tick(6000)
	s.tells(6000, api.Chunk{Kind: 8})
}

// P17.2: Shutdown's A is all one.
func TestShutdownNumber(t *testing.T) {
	for _, n := range []uint32{0, mine - 1, mine, mine + 1, half, top} {
		s := usual(t, open)
		s.send(text(0, 3))
		s.tells(0, flight(mine, 0, text(0, 3)))
		s.hear(0, shutdown(n))
		s.state(shutHeard)
		s.tells(0)
		s.state(shutHeard)
		s.tick(3000)
		s.tells(3000, flight(mine, 0, text(0, 3)))
	}
}

// P17.2: in ShutHeard what was sent is told to its end, then the ShutdownAck; nothing new is taken.
func TestShutHeard(t *testing.T) {
	s := usual(t, open)
	s.send(text(0, 90), text(0, 90), text(0, 90), text(0, 90))
	s.hear(0, shutdown(0))
	if err := s.sends(text(0, 1), always, always, 0); err != api.ErrState {
		t.Errorf("Send is %v", err)
	}
	s.tell(0)
	s.hear(0, sack(mine+1, 65536))
	s.tell(0)
	s.state(shutHeard)
	s.hear(0, sack(mine+3, 65536))
	s.state(shutHeard)
	s.tells(0, api.Chunk{Kind: 8})
	s.state(shutAcked)
}
