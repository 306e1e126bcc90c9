package assoc_test

import (
	"testing"

	"bollard/api"
)

// P17.2, P17.5: Data is a message; an answer is told, and a Sack of it lets the other side's be gone.
func TestData(t *testing.T) {
	s := usual(t, open)
	s.send(text(1, 4))
	s.hear(0, flight(peerFirst, 0, text(2, 7)))
	s.has(text(2, 7))
	s.tells(0, sack(peerFirst, 65536), flight(mine, 0, text(1, 4)))
	s.tells(0)
	s.hear(0, sack(mine, 65536))
	s.tick(100000)
	s.tells(100000)
}

// P17.2: Forward skips what the other side gave up.
func TestForward(t *testing.T) {
	s := usual(t, open)
	s.hear(0, flight(peerFirst+5, 3, text(2, 7)))
	s.has()
	s.hear(0, api.Chunk{Kind: 192, A: peerFirst + 4, Skips: []api.Skip{{Stream: 2, Ssn: 2}}})
	s.has(text(2, 7))
	s.tells(0, sack(peerFirst+5, 65536))
}

// P17.2: an error of the End is the error, and what stands behind is not taken in.
func TestEndErrors(t *testing.T) {
	far, stream := flight(peerFirst+1024, 0, text(0, 1)), flight(peerFirst, 0, text(3, 1))
	for want, c := range map[api.Errno]api.Chunk{
		api.ErrFull: far,
		api.ErrName: stream,
		api.ErrForm: sack(mine, 65536),
	} {
		for _, state := range []int{open, shutSent, shutAcked} {
			s := usual(t, state)
			s.refuses(want, mine, c, api.Chunk{Kind: 6})
			s.tells(0)
			s.state(state)
		}
	}
}

// P17.2: in each state from Open to ShutAcked Data is a message, and what is owed is told.
func TestDataInEachState(t *testing.T) {
	for _, state := range states()[open:done] {
		s := usual(t, state)
		l, err := s.hearsChunks(mine, 0, flight(peerFirst+1, 1, text(0, 3)), flight(peerFirst, 0, text(0, 2)))
		if err != api.OK {
			t.Errorf("in the state %d Hear is %v", state, err)
		}
		// In ShutSent each is answered.
		if state == shutSent {
			s.are(l, shutdown(peerFirst-1), shutdown(peerFirst+1))
		} else {
			s.are(l)
		}
		s.has(text(0, 2), text(0, 3))
		s.tells(0, sack(peerFirst+1, 65536))
		s.tells(0)
		s.state(state)
	}
}

// P17.2: in ShutSent Data that is told twice is answered, too; a Sack and a Forward are not.
func TestDataInShutSent(t *testing.T) {
	s := usual(t, shutSent)
	s.answers(0, []api.Chunk{flight(peerFirst, 0, text(0, 3))}, shutdown(peerFirst))
	s.answers(0, []api.Chunk{flight(peerFirst, 0, text(0, 3))}, shutdown(peerFirst))
	s.has(text(0, 3))
	s.hear(0, sack(mine-1, 65536), api.Chunk{Kind: 192, A: peerFirst + 8})
	s.answers(0, []api.Chunk{flight(peerFirst+9, 1, text(0, 3))}, shutdown(peerFirst+9))
	s.refuses(api.ErrName, mine, flight(peerFirst+10, 1, text(9, 3)))
	s.state(shutSent)
}

// P17.5: Send: ErrState, unless Open, ahead of the End's errors; else these.
func TestSend(t *testing.T) {
	for _, state := range states() {
		s := usual(t, state)
		for want, m := range map[api.Errno]api.Message{
			api.OK:       text(1, 5),
			api.ErrName:  text(2, 5),
			api.ErrArg:   {},
			api.ErrLarge: text(0, 16385),
		} {
			if state != open {
				want = api.ErrState
			}
			if err := s.sends(m, always, always, 0); err != want {
				t.Errorf("in the state %d Send of %d octets on %d is %v, want %v", state, len(m.Data), m.Stream, err, want)
			}
		}
	}
	s := usual(t, open)
	for range 4 {
		s.send(text(0, 16384))
	}
	if err := s.sends(text(0, 1), always, always, 0); err != api.ErrFull {
		t.Errorf("Send is %v", err)
	}
}

// P17.5: a message's life and tries are the End's.
func TestSendBounds(t *testing.T) {
	s := usual(t, open)
	s.sends(text(0, 4), 50, always, 10)
	s.sends(text(1, 5), always, 0, 10)
	s.tells(61, api.Chunk{Kind: 192, A: mine, Skips: []api.Skip{{Stream: 0, Ssn: 0}}}, flight(mine+1, 0, text(1, 5)))
	s.tick(3061)
	s.tells(3061, api.Chunk{Kind: 192, A: mine + 1, Skips: []api.Skip{{Stream: 0, Ssn: 0}, {Stream: 1, Ssn: 0}}})
}

// P17.5: Messages are told in each state, and those that are ready stay so in the end.
func TestMessages(t *testing.T) {
	s := usual(t, open)
	s.hear(0, flight(peerFirst, 0, text(0, 3)), flight(peerFirst+1, 0, text(1, 4)))
	s.abort()
	s.has(text(0, 3), text(1, 4))

	s = usual(t, open)
	s.hear(0, flight(peerFirst, 0, text(0, 3)), shutdown(0))
	s.tell(0)
	s.hear(0, api.Chunk{Kind: 14})
	s.state(done)
	s.has(text(0, 3))
}
