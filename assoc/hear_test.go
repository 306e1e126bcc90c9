package assoc_test

import (
	"slices"
	"testing"

	"bollard/api"
	"bollard/assoc"
)

// become is what a chunk brings about: an error, or an answer of a kind (none: below 0), and the state then (as it was: below 0).
type become struct {
	err   api.Errno
	kind  int
	state int
}

var (
	nothing  = become{api.OK, -1, -1}
	wrongTag = become{api.ErrTag, -1, -1}
	notNow   = become{api.ErrState, -1, -1}
)

// goes is that the state is another one.
func goes(state int) become { return become{api.OK, -1, state} }

// tells is that there is an answer.
func tells(kind int) become { return become{api.OK, kind, -1} }

// ends is that there is an answer, and that is the end.
func ends(kind int) become { return become{api.OK, kind, done} }

// inAll is the same in all states in which the other side knows this one's tag.
func inAll(b become) []become {
	return []become{wrongTag, b, b, b, b, b, b, b, wrongTag}
}

// kinds are chunks as they may come under this side's tag, and what they bring about in each state, from Closed to Done.
func kinds(t *testing.T) map[string]struct {
	chunk  api.Chunk
	become []become
} {
	type row = struct {
		chunk  api.Chunk
		become []become
	}
	data := []become{wrongTag, notNow, notNow, nothing, nothing, tells(7), nothing, nothing, wrongTag}
	transfer := []become{wrongTag, notNow, notNow, nothing, nothing, nothing, nothing, nothing, wrongTag}
	resets := []become{wrongTag, notNow, notNow, tells(130), tells(130), notNow, tells(130), notNow, wrongTag}
	silent := []become{wrongTag, notNow, notNow, nothing, nothing, notNow, nothing, notNow, wrongTag}
	return map[string]row{
		"InitAck":               {welcome(), []become{wrongTag, goes(echoed), notNow, notNow, notNow, notNow, notNow, notNow, wrongTag}},
		"CookieEcho":            {brought(t, cookieState()), []become{{api.OK, 11, open}, {api.OK, 11, open}, {api.OK, 11, open}, tells(11), tells(11), tells(11), tells(11), tells(11), notNow}},
		"CookieAck":             {api.Chunk{Kind: 11}, []become{wrongTag, notNow, goes(open), notNow, notNow, notNow, notNow, notNow, wrongTag}},
		"Data":                  {flight(peerFirst, 0, text(1, 5)), data},
		"Sack":                  {sack(mine-1, 65536), transfer},
		"Forward":               {api.Chunk{Kind: 192, A: peerFirst}, transfer},
		"Heartbeat":             {api.Chunk{Kind: 4, Params: []api.Param{{Kind: 1, V: []byte{1, 2, 3}}}}, inAll(tells(5))},
		"HeartbeatAck":          {api.Chunk{Kind: 5, Params: []api.Param{{Kind: 1, V: []byte{1, 2, 3}}}}, inAll(nothing)},
		"Error":                 {api.Chunk{Kind: 9}, inAll(nothing)},
		"Abort":                 {api.Chunk{Kind: 6}, inAll(goes(done))},
		"Shutdown":              {shutdown(0), []become{wrongTag, notNow, notNow, goes(shutHeard), goes(shutHeard), goes(shutAcked), nothing, nothing, wrongTag}},
		"ShutdownAck":           {api.Chunk{Kind: 8}, []become{wrongTag, notNow, notNow, notNow, notNow, ends(14), notNow, ends(14), wrongTag}},
		"ShutdownDone":          {api.Chunk{Kind: 14}, []become{wrongTag, notNow, notNow, notNow, notNow, notNow, notNow, goes(done), wrongTag}},
		"a request":             {ask(9, peerFirst-1, 1), resets},
		"an answer":             {answer(9, 1), silent},
		"a Reset of nothing":    {reset(), silent},
		"an unknown kind":       {api.Chunk{Kind: 12, Data: []byte{1}}, inAll(nothing)},
		"another unknown kind":  {api.Chunk{Kind: 129, Data: []byte{1}}, inAll(nothing)},
		"the last unknown kind": {api.Chunk{Kind: 255}, inAll(nothing)},
	}
}

// P17.2: each kind of chunk in each of the nine states, under this side's tag: the error, the answer, the state then.
func TestEachKindInEachState(t *testing.T) {
	for name, row := range kinds(t) {
		for _, state := range states() {
			s := usual(t, state)
			l, err := s.hearsChunks(mine, 0, row.chunk)
			want := row.become[state]
			if err != want.err {
				t.Errorf("%s in the state %d is %v, want %v", name, state, err, want.err)
			}
			switch {
			case want.kind < 0 && len(l) > 0, want.kind >= 0 && len(l) != 1:
				t.Errorf("%s in the state %d is answered by %v", name, state, l)
			case want.kind >= 0:
				s.isAnswer(l[0], uint8(want.kind))
			}
			if want.state < 0 {
				want.state = state
			}
			s.state(want.state)
		}
	}
}

// isAnswer asks for a packet of this side that has one chunk of a kind.
func (s *side) isAnswer(p api.Packet, kind uint8) {
	s.t.Helper()
	if p.From != port || p.To != peer || p.Tag != s.w.theirs || len(p.Chunks) != 1 || p.Chunks[0].Kind != kind || p.Chunks[0].Flags != 0 {
		s.t.Errorf("the answer is %v, want the kind %d", p, kind)
	}
}

// P17.2: what brings about nothing or an error changes nothing, but for what the End takes in.
func TestNothingChanges(t *testing.T) {
	for name, row := range kinds(t) {
		for _, state := range states() {
			takesIn := slices.Contains([]string{"Data", "Sack", "Forward"}, name) && row.become[state].err == api.OK
			if b := row.become[state]; takesIn || b.state >= 0 || b.kind == 130 {
				continue
			}
			kept(t, state, func(s *side) { s.hearsChunks(mine, 0, row.chunk) })
		}
	}
}

// P17.2: all others than Init and CookieEcho under another tag than this side's are ErrTag, in each state, and change nothing.
func TestWrongTag(t *testing.T) {
	for name, row := range kinds(t) {
		if name == "CookieEcho" {
			continue
		}
		for _, state := range states() {
			kept(t, state, func(s *side) {
				for _, tag := range []uint32{0, 1, mine - 1, mine + 1, theirs, mine ^ half, top} {
					s.refuses(api.ErrTag, tag, row.chunk)
				}
			})
		}
	}
}

// P17.2: each kind of chunk is ErrTag in Closed and in Done, under whichever tag; but an Init and a CookieEcho have errors of their own.
func TestTagInClosedAndDone(t *testing.T) {
	for _, state := range []int{closed, done} {
		kept(t, state, func(s *side) {
			for kind := range 256 {
				if slices.Contains([]int{0, 1, 10}, kind) {
					continue
				}
				for _, tag := range []uint32{0, mine, theirs} {
					for _, flags := range []uint8{0, 1, 255} {
						s.refuses(api.ErrTag, tag, api.Chunk{Kind: uint8(kind), Flags: flags})
					}
				}
			}
		})
	}
}

// P17.2: ShutdownDone and Abort with the Flag 1 come under the other side's tag, if it has one.
func TestFlagged(t *testing.T) {
	for _, kind := range []uint8{6, 14} {
		for _, state := range states() {
			for _, flags := range []uint8{1, 3, 129, 255} {
				c := api.Chunk{Kind: kind, Flags: flags}
				kept(t, state, func(s *side) {
					for _, tag := range []uint32{0, mine, theirs + 1, top} {
						s.refuses(api.ErrTag, tag, c)
					}
				})
				s := usual(t, state)
				_, err := s.hearsChunks(theirs, 0, c)
				switch {
				case state < echoed || state == done:
					if err != api.ErrTag {
						t.Errorf("in the state %d Hear of %v is %v", state, c, err)
					}
				case kind == 14 && state != shutAcked:
					if err != api.ErrState {
						t.Errorf("in the state %d Hear of %v is %v", state, c, err)
					}
				case err != api.OK || s.a.State() != done:
					t.Errorf("in the state %d Hear of %v is %v", state, c, err)
				}
			}
		}
	}
}

// P17.2: with other flags they come under this side's tag; and no other kind asks for its flags.
func TestOtherFlags(t *testing.T) {
	for _, flags := range []uint8{0, 2, 4, 128, 254} {
		s := usual(t, open)
		s.refuses(api.ErrTag, theirs, api.Chunk{Kind: 6, Flags: flags})
		s.hear(0, api.Chunk{Kind: 6, Flags: flags})
		s.state(done)
		s = usual(t, shutAcked)
		s.refuses(api.ErrTag, theirs, api.Chunk{Kind: 14, Flags: flags})
		s.hear(0, api.Chunk{Kind: 14, Flags: flags})
		s.state(done)
	}
	for _, kind := range []uint8{3, 4, 5, 7, 8, 9, 11, 130, 192} {
		s := usual(t, open)
		s.refuses(api.ErrTag, theirs, api.Chunk{Kind: kind, Flags: 255})
		s.refuses(api.ErrTag, theirs, api.Chunk{Kind: kind, Flags: 1})
	}
}

// P17.2: a cookie whose Peer is 0 gives a side without another one's tag: the tag 0 is none of a flagged Abort.
func TestFlaggedWithoutTag(t *testing.T) {
	s := usual(t, closed)
	c := cookieState()
	c.Peer = 0
	s.opens(c)
	s.tags(mine, 0, 1)
	s.refuses(api.ErrTag, 0, api.Chunk{Kind: 6, Flags: 1})
	s.refuses(api.ErrTag, 0, api.Chunk{Kind: 14, Flags: 1})
	s.hear(0, shutdown(0))
	s.tells(0, api.Chunk{Kind: 8})
	s.refuses(api.ErrTag, 0, api.Chunk{Kind: 14, Flags: 1})
	if l := s.abort(); len(l) != 0 {
		t.Errorf("Abort is %v", l)
	}
	s.state(done)
}

// P17.2: of nil ErrArg, whatever is handed in.
func TestHearOfNil(t *testing.T) {
	var a *assoc.Assoc
	for _, b := range [][]byte{nil, {1}, make([]byte, 2000), packed(t, api.Packet{From: peer, To: port, Chunks: []api.Chunk{invitation()}})} {
		if l, err := a.Hear(b, 5, 6); err != api.ErrArg || len(l) != 0 {
			t.Errorf("Hear is %v, %v", l, err)
		}
	}
}

// P17.2: octets that are no packet: packet.Decode's error, ahead of the ports', and nothing changes.
func TestHearOfNoPacket(t *testing.T) {
	good := packed(t, api.Packet{From: peer, To: port, Tag: mine, Chunks: []api.Chunk{{Kind: 6}}})
	turned := slices.Clone(good)
	turned[0] ^= 1
	tags := slices.Clone(good)
	tags[7] ^= 4
	none := map[api.Errno][][]byte{
		api.ErrShort: {nil, {}, good[:1], good[:15], crowdedBy(t, 0, 0, 7)},
		api.ErrLarge: {make([]byte, 1201), make([]byte, 70000)},
		api.ErrSum:   {make([]byte, 16), make([]byte, 1200), turned, tags, append(slices.Clone(good), 0, 0, 0, 0)},
		api.ErrForm:  {crowdedBy(t, 6, 0, 0, 3), crowdedBy(t, 0, 0, 0, 16, 0, 0, 0, 1, 0, 1, 0, 0, 0, 0, 0, 1)},
	}
	for _, state := range states() {
		kept(t, state, func(s *side) {
			for want, l := range none {
				for _, b := range l {
					if answers, err := s.hears(b, 0, 5); err != want || len(answers) != 0 {
						t.Errorf("in the state %d Hear of %v is %v, %v, want %v", state, b, answers, err, want)
					}
				}
			}
		})
	}
}

// P17.2: a packet of other ports is ErrArg, ahead of the tag's error, and changes nothing.
func TestHearOfOtherPorts(t *testing.T) {
	for _, state := range states() {
		kept(t, state, func(s *side) {
			for _, x := range [][2]uint16{{port, peer}, {peer, peer}, {port, port}, {peer + 1, port}, {peer, port + 1}, {0, 0}, {peer & 255, port}, {peer, port & 255}} {
				for _, tag := range []uint32{0, mine, theirs} {
					for _, c := range []api.Chunk{invitation(), {Kind: 6}, {Kind: 4}, brought(t, cookieState())} {
						b := packed(t, api.Packet{From: x[0], To: x[1], Tag: tag, Chunks: []api.Chunk{c}})
						if l, err := s.hears(b, 0, 5); err != api.ErrArg || len(l) != 0 {
							t.Errorf("in the state %d of the ports %v Hear is %v, %v", state, x, l, err)
						}
					}
				}
			}
		})
	}
}

// P17.2: HeartbeatAck has the parameters of the Heartbeat, all of them.
func TestHeartbeat(t *testing.T) {
	long := make([]byte, 1100)
	long[1099] = 7
	for _, params := range [][]api.Param{nil, {{}}, {{Kind: 1, V: []byte{1, 2, 3}}}, {{Kind: 65535, V: []byte{9}}, {Kind: 7}, {Kind: 13, V: []byte{1, 2}}, {Kind: 16}}, {{Kind: 1, V: long}}, make([]api.Param, 32)} {
		for _, state := range states()[waiting:done] {
			kept(t, state, func(s *side) {
				s.answers(0, []api.Chunk{{Kind: 4, Flags: 255, Params: params}}, api.Chunk{Kind: 5, Params: params})
			})
		}
	}
}

// P17.2: of an unknown kind what follows is looked at, unless tlv.ChunkAction says otherwise.
func TestUnknownKinds(t *testing.T) {
	for kind := range 256 {
		if !unknown(uint8(kind)) {
			continue
		}
		s := usual(t, open)
		beat := api.Chunk{Kind: 4}
		want := []api.Chunk{{Kind: 5}}
		if kind >= 128 {
			want = append(want, api.Chunk{Kind: 5})
		}
		s.answers(0, []api.Chunk{beat, {Kind: uint8(kind), Flags: 255, Data: []byte{1, 2}}, beat}, want...)
		s.answers(0, []api.Chunk{{Kind: uint8(kind)}, {Kind: 6}})
		if wantState := []int{open, done}[kind/128]; s.a.State() != wantState {
			t.Errorf("behind the kind %d the state is %d, want %d", kind, s.a.State(), wantState)
		}
	}
}

// P17.2: behind kinds that are known, and bring about nothing, what follows is looked at.
func TestKnownKindsGoOn(t *testing.T) {
	for _, c := range []api.Chunk{{Kind: 5}, {Kind: 9}, sack(mine-1, 65536), {Kind: 192, A: peerFirst - 1}, shutdown(0), reset(), {Kind: 4}, flight(peerFirst, 0, text(0, 1))} {
		s := usual(t, open)
		if l, err := s.hearsChunks(mine, 0, c, api.Chunk{Kind: 6}); err != api.OK || len(l) > 1 {
			t.Errorf("behind %v Hear is %v, %v", c, l, err)
		}
		s.state(done)
	}
}

// P17.2: several chunks are taken in one by one, up to the first error, which is told with the answers so far.
func TestSeveralChunks(t *testing.T) {
	s := usual(t, open)
	beat, ack := api.Chunk{Kind: 4, Params: []api.Param{{Kind: 1}}}, api.Chunk{Kind: 5, Params: []api.Param{{Kind: 1}}}
	s.answers(0, []api.Chunk{beat, flight(peerFirst, 0, text(0, 4)), ask(1000, peerFirst, 1), beat}, ack, answer(1000, 1), ack)
	s.has(text(0, 4))
	s.restarted(1)

	l, err := s.hearsChunks(mine, 0, beat, ask(1001, peerFirst, 2), api.Chunk{Kind: 11}, flight(peerFirst+1, 1, text(0, 5)), beat, ask(1002, peerFirst, 2))
	if err != api.ErrState {
		t.Errorf("Hear is %v", err)
	}
	s.are(l, ack, answer(1001, 1))
	s.has()
	s.restarted(2)

	l, err = s.hearsChunks(mine, 0, flight(peerFirst+1, 1, text(0, 5)), flight(peerFirst+2, 0, text(9, 5)), api.Chunk{Kind: 6})
	if err != api.ErrName || len(l) != 0 {
		t.Errorf("Hear is %v, %v", l, err)
	}
	s.has(text(0, 5))
	s.state(open)
}

// P17.2: what a chunk brings about holds for those behind it in the same packet.
func TestChunksOneByOne(t *testing.T) {
	s := usual(t, closed)
	s.answersCookie(brought(t, cookieState()), []api.Chunk{flight(peerFirst, 0, text(0, 4)), {Kind: 4}}, api.Chunk{Kind: 11}, api.Chunk{Kind: 5})
	s.state(open)
	s.has(text(0, 4))
	s.hear(0, shutdown(0), shutdown(0), api.Chunk{Kind: 5})
	s.state(shutHeard)

	s = usual(t, open)
	l, err := s.hearsChunks(mine, 0, api.Chunk{Kind: 4}, api.Chunk{Kind: 6}, api.Chunk{Kind: 4})
	if err != api.ErrTag {
		t.Errorf("behind an Abort Hear is %v", err)
	}
	s.are(l, api.Chunk{Kind: 5})

	s = usual(t, shutSent)
	l, err = s.hearsChunks(mine, 0, flight(peerFirst, 0, text(0, 4)), api.Chunk{Kind: 8}, api.Chunk{Kind: 4})
	if err != api.ErrTag {
		t.Errorf("behind a ShutdownAck Hear is %v", err)
	}
	s.are(l, shutdown(peerFirst), api.Chunk{Kind: 14})
	s.has(text(0, 4))

	s = usual(t, echoed)
	s.hear(0, api.Chunk{Kind: 11}, flight(peerFirst, 0, text(0, 4)))
	s.state(open)
	s.has(text(0, 4))
}

// answersCookie hands in a CookieEcho of the tag mine with chunks behind it, and asks for one packet for each of these answers.
func (s *side) answersCookie(cookie api.Chunk, l []api.Chunk, want ...api.Chunk) {
	s.t.Helper()
	got, err := s.hearsChunks(mine, 0, append([]api.Chunk{cookie}, l...)...)
	if err != api.OK {
		s.t.Fatalf("Hear is %v", err)
	}
	s.are(got, want...)
}

// P17.2: a restart's CookieEcho, and what stands behind it under the new tag.
func TestChunksBehindRestart(t *testing.T) {
	s := usual(t, open)
	c := cookieState()
	c.Tag, c.Peer, c.Ties = 1111, 2222, [2]uint32{mine, theirs}
	l, err := s.hearsChunks(1111, 0, brought(t, c), api.Chunk{Kind: 4})
	if err != api.OK {
		t.Errorf("Hear is %v", err)
	}
	s.are(l, api.Chunk{Kind: 11}, api.Chunk{Kind: 5})
	if l[1].Tag != 2222 {
		t.Errorf("the answer's tag is %d", l[1].Tag)
	}
	l, err = s.hearsChunks(1111, 0, api.Chunk{Kind: 4}, brought(t, c), api.Chunk{Kind: 4})
	if err != api.OK || len(l) != 3 {
		t.Errorf("Hear is %v, %v", l, err)
	}
}
