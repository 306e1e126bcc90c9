package assoc_test

import (
	"testing"

	"bollard/api"
)

// P17.5: Restart: a Reset with the next number, the End's Next less 1, and the streams; one at a time.
func TestRestart(t *testing.T) {
	s := usual(t, open)
	s.restart(0, 1)
	if err := s.restarts(0, 2); err != api.ErrState {
		t.Errorf("a second Restart is %v", err)
	}
	s.tells(0, ask(mine+1, mine-1, 1))
	s.tells(0)
	s.noStreams()
	s.hear(0, answer(mine+1, 1))
	s.performed(1)

	s.send(text(0, 3), text(1, 4))
	s.restart(5, 2, 0, 2, 65535)
	s.tells(5, ask(mine+2, mine+1, 2, 0, 2, 65535), flight(mine, 0, text(0, 3)), flight(mine+1, 0, text(1, 4)))
	s.hear(5, answer(mine+2, 1))
	s.performed(2, 0, 2, 65535)
	s.restart(5, 3)
	s.tells(5, ask(mine+3, mine+1, 3))
}

// P17.5: Restart's octets.
func TestRestartOctets(t *testing.T) {
	s := usual(t, open)
	s.restart(0, 258, 3)
	l := s.tell(0)
	want := []byte{0, 0, 0, mine + 1, 0, 0, 0, mine - 1, 1, 2, 0, 3}
	if v := l[0].Chunks[0].Params[0]; v.Kind != 13 || string(v.V) != string(want) {
		t.Errorf("the parameter is %v, want %v", v, want)
	}
}

// P17.5: the numbers of requests go round, and begin behind the tag.
func TestRestartNumbers(t *testing.T) {
	s := begin(t, config())
	c := cookieState()
	c.Tag, c.First = top-1, 0
	s.opens(c)
	for _, want := range []uint32{top, 0, 1} {
		s.restart(0, 1)
		s.tells(0, ask(want, top, 1))
		s.hear(0, answer(want-1, 1), answer(want+1, 1))
		s.noStreams()
		s.hear(0, answer(want, 1))
		s.performed(1)
	}
}

// P17.5: Restart: ErrState, unless Open, ahead of ErrArg of no streams and of more than 64; nothing is kept then.
func TestRestartErrors(t *testing.T) {
	for _, state := range states() {
		want := api.ErrState
		if state == open {
			want = api.ErrArg
		}
		kept(t, state, func(s *side) {
			for _, l := range [][]uint16{nil, {}, make([]uint16, 65), make([]uint16, 70000)} {
				if err := s.restarts(0, l...); err != want {
					t.Errorf("in the state %d Restart of %d streams is %v, want %v", state, len(l), err, want)
				}
			}
			if state != open {
				if err := s.restarts(0, 1); err != want {
					t.Errorf("in the state %d Restart is %v", state, err)
				}
			}
		})
	}
	s := usual(t, open)
	s.restart(0, 1)
	for _, l := range [][]uint16{nil, make([]uint16, 65)} {
		if err := s.restarts(0, l...); err != api.ErrState {
			t.Errorf("while one is under way Restart of %d streams is %v", len(l), err)
		}
	}
	s.tells(0, ask(mine+1, mine-1, 1))
}

// P17.5: 64 streams may be restarted at once.
func TestRestartOfMany(t *testing.T) {
	s := usual(t, open)
	var l []uint16
	for n := range uint16(64) {
		l = append(l, 3*n)
	}
	s.restart(0, l...)
	s.tells(0, ask(mine+1, mine-1, l...))
	s.hear(0, answer(mine+1, 1))
	s.performed(l...)
}

// P17.2: the answer 1 to the request that is under way: the streams' numbers of what is sent begin anew, and timer 3 stands.
func TestPerformed(t *testing.T) {
	s := usual(t, open)
	s.send(text(0, 1), text(1, 1), text(1, 2))
	s.tell(0)
	s.restart(0, 1)
	s.send(text(1, 3))
	s.tells(0, ask(mine+1, mine+2, 1), flight(mine+3, 2, text(1, 3)))
	s.hear(0, sack(mine+3, 65536), answer(mine+1, 1))
	s.send(text(1, 4), text(0, 5))
	s.tells(0, flight(mine+4, 0, text(1, 4)), flight(mine+5, 1, text(0, 5)))
	s.hear(0, sack(mine+5, 65536))
	s.performed(1)
	s.tick(100000)
	s.tells(100000)
	s.hear(0, answer(mine+1, 1))
	s.noStreams()
	s.hear(0, flight(peerFirst, 0, text(1, 7)), flight(peerFirst+1, 1, text(1, 8)))
	s.has(text(1, 7), text(1, 8))
}

// P17.2: answers to others than the request that is under way, and other results, bring about nothing.
func TestNotPerformed(t *testing.T) {
	s := usual(t, open)
	s.hear(0, answer(mine, 1), answer(mine+1, 1), answer(0, 1))
	s.noStreams()
	s.send(text(1, 1))
	s.tell(0)
	s.hear(0, sack(mine, 65536))
	s.restart(0, 1)
	s.tell(0)
	s.hear(0, answer(mine, 1), answer(mine+2, 1), answer(0, 1), answer(mine+1, 0), answer(mine+1, 2), answer(mine+1, 6), answer(mine+1, 65537), answer(mine+1, 1<<24))
	s.noStreams()
	if err := s.restarts(0, 2); err != api.ErrState {
		t.Errorf("Restart is %v", err)
	}
	s.tick(3000)
	s.tells(3000, ask(mine+1, mine, 1))
	s.hear(3000, answer(mine+1, 6))
	s.hear(3000, answer(mine+1, 1))
	s.performed(1)
}

// P17.2: a request that is answered ahead of its being told is told no more.
func TestPerformedUntold(t *testing.T) {
	s := usual(t, open)
	s.restart(0, 1)
	s.hear(0, answer(mine+1, 1))
	s.tells(0)
	s.performed(1)
	s.restart(0, 1)
	s.tell(0)
	s.tick(3000)
	s.hear(3000, answer(mine+2, 1))
	s.tells(3000)
	s.performed(1)
}

// P17.2: a request: the streams that come in begin anew, which is told, and the answer is its number and 1.
func TestRequest(t *testing.T) {
	for _, state := range []int{open, closing, shutHeard} {
		s := usual(t, state)
		s.hear(0, flight(peerFirst, 0, text(1, 3)), flight(peerFirst+1, 1, text(1, 4)), flight(peerFirst+2, 0, text(0, 5)), flight(peerFirst+3, 3, text(1, 6)))
		s.answers(0, []api.Chunk{ask(1000, peerFirst+3, 1)}, answer(1000, 1))
		s.restarted(1)
		s.hear(0, flight(peerFirst+4, 0, text(1, 7)), flight(peerFirst+5, 1, text(0, 8)), flight(peerFirst+6, 1, text(1, 9)), flight(peerFirst+7, 2, text(1, 10)))
		s.has(text(1, 3), text(1, 4), text(0, 5), text(1, 7), text(0, 8), text(1, 9), text(1, 10))
		s.state(state)
	}
}

// P17.2: the answer's octets.
func TestRequestOctets(t *testing.T) {
	l, err := usual(t, open).hearsChunks(mine, 0, ask(0x01020304, 0, 1), ask(0x01020305, peerFirst, 1))
	if err != api.OK || len(l) != 2 {
		t.Fatalf("Hear is %v, %v", l, err)
	}
	for i, want := range [][]byte{{1, 2, 3, 4, 0, 0, 0, 1}, {1, 2, 3, 5, 0, 0, 0, 6}} {
		if v := l[i].Chunks[0].Params; len(v) != 1 || v[0].Kind != 16 || string(v[0].V) != string(want) {
			t.Errorf("the answer is %v, want %v", v, want)
		}
	}
}

// P17.2: a request that names a TSN which is still to come is answered by 6, and not done; once all up to it has come it is.
func TestRequestTooEarly(t *testing.T) {
	s := usual(t, open)
	for _, last := range []uint32{peerFirst, peerFirst + 1, peerFirst + 1000, peerFirst - 1 + half - 1} {
		s.answers(0, []api.Chunk{ask(1000, last, 1)}, answer(1000, 6))
	}
	s.noStreams()
	for _, last := range []uint32{peerFirst - 1, peerFirst - 2, 0, peerFirst - 1 + half, peerFirst + half} {
		s := usual(t, open)
		s.answers(0, []api.Chunk{ask(1000, last, 1)}, answer(1000, 1))
		s.restarted(1)
	}
	s.hear(0, flight(peerFirst+1, 1, text(1, 3)))
	s.answers(0, []api.Chunk{ask(1000, peerFirst+1, 1)}, answer(1000, 6))
	s.hear(0, flight(peerFirst, 0, text(1, 3)))
	s.answers(0, []api.Chunk{ask(1000, peerFirst+2, 1)}, answer(1000, 6))
	s.noStreams()
	s.answers(0, []api.Chunk{ask(1000, peerFirst+1, 1)}, answer(1000, 1))
	s.restarted(1)
}

// P17.2: a request whose number is not above the last one that was done is answered by 1, and not done once more.
func TestRequestTwice(t *testing.T) {
	for _, number := range []uint32{1000, 0, 5, half, top} {
		s := usual(t, open)
		s.answers(0, []api.Chunk{ask(number, peerFirst-1, 1)}, answer(number, 1))
		s.restarted(1)
		s.hear(0, flight(peerFirst, 0, text(1, 3)))
		for _, again := range []uint32{number, number - 1, number - 1000, number + half, number - half + 1} {
			s.answers(0, []api.Chunk{ask(again, peerFirst, 1, 2)}, answer(again, 1))
			s.answers(0, []api.Chunk{ask(again, peerFirst+1, 1, 2)}, answer(again, 6))
		}
		s.noStreams()
		s.hear(0, flight(peerFirst+1, 1, text(1, 4)))
		s.has(text(1, 3), text(1, 4))
		s.answers(0, []api.Chunk{ask(number+1, peerFirst+1, 2)}, answer(number+1, 1))
		s.answers(0, []api.Chunk{ask(number+half-1, peerFirst+1, 1)}, answer(number+half-1, 1))
		s.restarted(2, 1)
	}
}

// P17.2: a request that was too early counts as none that was done.
func TestRequestTooEarlyIsNotDone(t *testing.T) {
	s := usual(t, open)
	s.answers(0, []api.Chunk{ask(1000, peerFirst, 1)}, answer(1000, 6))
	s.answers(0, []api.Chunk{ask(900, peerFirst-1, 2)}, answer(900, 1))
	s.restarted(2)
}

// P17.2: many streams, streams twice, and streams that are none are told as they were.
func TestRequestStreams(t *testing.T) {
	s := usual(t, open)
	var l []uint16
	for n := range uint16(500) {
		l = append(l, 131*n)
	}
	s.answers(0, []api.Chunk{ask(1000, 0, l...)}, answer(1000, 1))
	s.answers(0, []api.Chunk{ask(1001, 0, 2, 2, 65535, 2)}, answer(1001, 1))
	s.restarted(append(l, 2, 2, 65535, 2)...)
}

// wrongForms are parameters of the kinds 13 and 16 that have another form.
func wrongForms() []api.Param {
	var l []api.Param
	for _, n := range []int{0, 1, 4, 7, 8, 9, 11, 13, 135, 1001} {
		l = append(l, api.Param{Kind: 13, V: make([]byte, n)})
	}
	for _, n := range []int{0, 1, 4, 7, 9, 10, 12, 16, 1000} {
		l = append(l, api.Param{Kind: 16, V: make([]byte, n)})
	}
	return l
}

// P17.2: parameters of another form are ErrArg, and change nothing; in other states the state's error is told.
func TestResetForms(t *testing.T) {
	for _, p := range wrongForms() {
		for _, state := range states()[waiting:done] {
			kept(t, state, func(s *side) {
				want := api.ErrState
				if state == open || state == closing || state == shutHeard {
					want = api.ErrArg
				}
				s.refuses(want, mine, reset(p))
				s.refuses(want, mine, reset(api.Param{Kind: 1}, p, api.Param{Kind: 15, V: []byte{1}}))
			})
		}
	}
}

// P17.2: several parameters are taken one by one, up to one of another form; what was ahead of it is done and answered.
func TestResetParams(t *testing.T) {
	request := func(number uint32, streams ...uint16) api.Param {
		return ask(number, peerFirst-1, streams...).Params[0]
	}
	s := usual(t, open)
	s.restart(0, 3)
	s.tell(0)
	s.answers(0, []api.Chunk{reset(request(1000, 1), api.Param{Kind: 14, V: []byte{1}}, answer(mine+1, 1).Params[0], api.Param{Kind: 13 + 256}, request(1001, 2), api.Param{})}, answer(1000, 1), answer(1001, 1))
	in, out := s.streams()
	if len(in) != 2 || in[0] != 1 || in[1] != 2 || len(out) != 1 || out[0] != 3 {
		t.Errorf("Restarted is %v, Performed %v", in, out)
	}
	for _, p := range wrongForms() {
		s := usual(t, open)
		l, err := s.hearsChunks(mine, 0, reset(request(1000, 1), p, request(1001, 2)), api.Chunk{Kind: 6})
		if err != api.ErrArg {
			t.Errorf("Hear is %v", err)
		}
		s.are(l, answer(1000, 1))
		s.restarted(1)
		s.state(open)
	}
}

// P17.2: parameters that are neither a request nor an answer bring about nothing, whatever they have.
func TestResetOfOthers(t *testing.T) {
	for _, state := range []int{open, closing, shutHeard} {
		kept(t, state, func(s *side) {
			for kind := range 300 {
				if kind == 13 || kind == 16 {
					continue
				}
				for _, n := range []int{0, 8, 10} {
					s.hear(0, reset(api.Param{Kind: uint16(kind), V: make([]byte, n)}))
				}
			}
			s.hear(0, reset(api.Param{Kind: 13 << 8}, api.Param{Kind: 16 << 8}, api.Param{Kind: 65535}))
		})
	}
}

// P17.2: while this side ends, its request may still be answered.
func TestPerformedWhileEnding(t *testing.T) {
	for _, ahead := range []bool{true, false} {
		s := usual(t, open)
		s.send(text(0, 3))
		s.tell(0)
		s.restart(0, 1)
		if ahead {
			s.close(0)
		} else {
			s.hear(0, shutdown(0))
		}
		s.tells(0, ask(mine+1, mine, 1))
		s.hear(0, answer(mine+1, 1))
		s.performed(1)
		s.tick(3000)
		s.tells(3000, flight(mine, 0, text(0, 3)))
	}
}

// P17.5: Restarted and Performed of each state: nothing of what did not happen; what did is told in Done, too.
func TestStreamsInEachState(t *testing.T) {
	for _, state := range states() {
		usual(t, state).noStreams()
	}
	s := usual(t, open)
	s.restart(0, 3)
	s.answers(0, []api.Chunk{ask(1000, 0, 1, 2), answer(mine+1, 1)}, answer(1000, 1))
	s.abort()
	in, out := s.streams()
	if len(in) != 2 || len(out) != 1 {
		t.Errorf("Restarted is %v, Performed %v", in, out)
	}
	s.noStreams()
}

// P17.2: a request of the other side is of streams that come in alone, and what is sent goes on.
func TestRequestOneWay(t *testing.T) {
	s := usual(t, open)
	s.send(text(1, 1))
	s.tell(0)
	s.hear(0, sack(mine, 65536))
	s.answers(0, []api.Chunk{ask(1000, 0, 1)}, answer(1000, 1))
	s.send(text(1, 2))
	s.tells(0, flight(mine+1, 1, text(1, 2)))
}
