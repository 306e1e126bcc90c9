package assoc_test

import (
	"testing"

	"bollard/api"
	"bollard/cookie"
)

// comesBack hands in a cookie under its tag, at a time.
func (s *side) comesBack(c cookie.State, now int) ([]api.Packet, api.Errno) {
	s.t.Helper()
	return s.hearsChunks(c.Tag, now, brought(s.t, c))
}

// opens hands in a cookie that is answered by a CookieAck.
func (s *side) opens(c cookie.State) {
	s.t.Helper()
	l, err := s.comesBack(c, 0)
	if err != api.OK {
		s.t.Fatalf("Hear of the cookie %v is %v", c, err)
	}
	s.are(l, api.Chunk{Kind: 11})
}

// P17.2: a cookie that comes back opens: its tags, and an End of its numbers.
func TestCookie(t *testing.T) {
	for _, state := range []int{closed, waiting, echoed} {
		s := usual(t, state)
		before := s.a.Times()
		s.opens(cookie.State{Life: 5, Tag: 1111, Peer: 2222, First: 3333, PeerFirst: 4444, Room: 100, Out: 2, In: 3, Ties: [2]uint32{8, 9}})
		s.state(open)
		s.tags(1111, 2222, before+1)
		s.isEnd(3333, 4444, 100, 2, 3)
	}
}

// isEnd asks that an End has these numbers, by what it says and takes in: Out streams to send on, In that come in, the first numbers, and so much room on the other side.
func (s *side) isEnd(first, peerFirst uint32, room, out, in int) {
	s.t.Helper()
	if err := s.sends(text(uint16(out), 1), always, always, 0); err != api.ErrName {
		s.t.Errorf("of %d streams Send on one more is %v", out, err)
	}
	// Pieces have 100 octets, and three of them fly at first.
	s.send(text(uint16(out-1), 90), text(uint16(out-1), 80), text(0, 70), text(0, 60))
	var flying int
	for _, p := range s.tell(0) {
		if p.Tag != s.w.theirs {
			s.t.Errorf("the tag is %d, want %d", p.Tag, s.w.theirs)
		}
		for _, c := range p.Chunks {
			if c.Kind != api.Data || c.A != first {
				s.t.Errorf("there is told %v, want the number %d", c, first)
			}
			first++
			flying += len(c.Data)
		}
	}
	if want := min(300, max(room, 100)); flying > want || flying < want-99 {
		s.t.Errorf("%d octets fly, there was room for %d", flying, want)
	}
	if _, err := s.hearsChunks(s.w.mine, 0, flight(peerFirst, 0, text(uint16(in), 1))); err != api.ErrName {
		s.t.Errorf("of %d streams Hear of one more is %v", in, err)
	}
	s.hear(0, flight(peerFirst, 0, text(uint16(in-1), 5)))
	s.has(text(uint16(in-1), 5))
	s.tells(0, sack(peerFirst, 65536))
}

// P17.2: the streams of a cookie are bounded as an End bounds them, and Mtu is this side's.
func TestCookieEdges(t *testing.T) {
	for _, x := range []struct {
		n    uint16
		want int
	}{{0, 64}, {1, 1}, {64, 64}, {65, 64}, {65535, 64}} {
		s := usual(t, closed)
		c := cookieState()
		c.Out, c.In = x.n, x.n
		s.opens(c)
		s.isEnd(mine, peerFirst, 70000, x.want, x.want)
	}
	c := config()
	c.Mtu = 40
	s := begin(t, c)
	s.opens(cookieState())
	s.send(text(1, 30))
	m := text(1, 30)
	l := s.tell(0)
	if len(l) != 1 || len(l[0].Chunks) != 3 || len(l[0].Chunks[0].Data) != 12 || len(l[0].Chunks[2].Data) != 6 || l[0].Chunks[2].Data[5] != m.Data[29] {
		t.Errorf("of the Mtu 40 there is told %v", l)
	}
}

// P17.2: a cookie opens a side that begins itself: what it was about to say is said no more, and all timers stand.
func TestCookieInTheBeginning(t *testing.T) {
	for _, state := range []int{waiting, echoed} {
		s := usual(t, state)
		s.tick(3000)
		s.opens(cookie.State{Life: 5, Tag: 1111, Peer: 2222, First: 3333, PeerFirst: 4444, Room: 100, Out: 2, In: 3})
		for now := 3000; now < 1000000; now += 3000 {
			s.tells(now)
			s.tick(now)
		}
		s.state(open)
	}
}

// P17.2: in Waiting and in Echoed the cookie that this side made of the other one's Init has this side's tag: so both begin at once.
func TestCookieOfOwnTag(t *testing.T) {
	for _, state := range []int{waiting, echoed} {
		s := usual(t, state)
		_, c := s.invited(invitation(), 0, 999)
		before := s.a.Times()
		s.opens(c)
		s.state(open)
		s.tags(mine, theirs, before+1)
		s.isEnd(mine, peerFirst, 70000, 2, 3)
	}
}

// P17.2: a cookie of the two tags is answered once more, and changes nothing; in Done it is ErrState.
func TestCookieOnceMore(t *testing.T) {
	for _, state := range []int{open, closing, shutSent, shutHeard, shutAcked} {
		kept(t, state, func(s *side) {
			for _, ties := range [][2]uint32{{0, 0}, {mine, 0}, {mine, theirs}, {theirs, mine}, {5, 6}} {
				c := cookieState()
				c.Ties = ties
				s.opens(c)
			}
		})
	}
	kept(t, done, func(s *side) { s.refuses(api.ErrState, mine, brought(t, cookieState())) })
}

// P17.2: other tags than the two are ErrState from Open on, and change nothing.
func TestCookieOfOtherTags(t *testing.T) {
	for _, state := range states()[open:] {
		kept(t, state, func(s *side) {
			for _, tags := range [][2]uint32{{mine, theirs + 1}, {mine + 1, theirs}, {theirs, mine}, {mine, 0}, {1, 1}} {
				c := cookieState()
				c.Tag, c.Peer = tags[0], tags[1]
				s.refuses(api.ErrState, c.Tag, brought(t, c))
				c.Ties = [2]uint32{mine, theirs + 1}
				s.refuses(api.ErrState, c.Tag, brought(t, c))
				c.Ties = [2]uint32{mine + 1, theirs}
				s.refuses(api.ErrState, c.Tag, brought(t, c))
				c.Ties = [2]uint32{theirs, mine}
				s.refuses(api.ErrState, c.Tag, brought(t, c))
			}
		})
	}
}

// P17.2: in Open a cookie that is tied to the two tags, and has a new Tag, is a restart: there is a new End, and nothing of the old one.
func TestCookieRestarts(t *testing.T) {
	for _, other := range []uint32{4321, theirs, mine} {
		s := usual(t, open)
		s.send(text(0, 50), text(1, 60))
		s.hear(0, flight(peerFirst, 0, text(0, 4)), flight(peerFirst+1, 1, text(0, 4)), flight(peerFirst+3, 2, text(0, 4)))
		s.tell(0)
		s.restart(0, 1)
		c := cookieState()
		c.Tag, c.Peer, c.First, c.PeerFirst, c.Room, c.Out, c.In = 1111, other, 5555, 6666, 150, 4, 4
		c.Ties = [2]uint32{mine, theirs}
		s.opens(c)
		s.state(open)
		s.tags(1111, other, 2)
		s.has()
		s.isEnd(5555, 6666, 150, 4, 4)
		s.refuses(api.ErrTag, mine, api.Chunk{Kind: 4})
		s.hear(0, api.Chunk{Kind: 5})
		s.opens(c)
		s.tags(1111, other, 2)
	}
}

// P17.2: a restart lets the timer 3 stand, and requests begin anew behind the new tag, on both sides.
func TestCookieRestartsRequests(t *testing.T) {
	s := usual(t, open)
	s.restart(0, 1)
	s.answers(0, []api.Chunk{ask(1000, peerFirst-1, 2)}, answer(1000, 1))
	c := cookieState()
	c.Tag, c.First, c.Ties = 1111, 2000, [2]uint32{mine, theirs}
	s.opens(c)
	for now := 0; now < 500000; now += 3000 {
		s.tells(now)
		s.tick(now)
	}
	s.state(open)
	s.streams()
	s.hear(0, answer(78, 1))
	s.noStreams()
	s.restart(0, 3)
	s.tells(0, ask(1112, 1999, 3))
	s.answers(0, []api.Chunk{ask(7, peerFirst-1, 2)}, answer(7, 1))
	s.restarted(2)
	s.hear(0, answer(1112, 1))
	s.performed(3)
}

// P17.2: a cookie tied to the two tags is a restart in Open alone.
func TestCookieRestartsInOpenAlone(t *testing.T) {
	for _, state := range states()[closing:] {
		kept(t, state, func(s *side) {
			c := cookieState()
			c.Tag, c.Ties = 1111, [2]uint32{mine, theirs}
			s.refuses(api.ErrState, 1111, brought(t, c))
		})
	}
}

// P17.2: how long a cookie is fresh.
func TestCookieStale(t *testing.T) {
	for _, x := range []struct {
		now  int
		want api.Errno
	}{{least, api.ErrStale}, {0, api.ErrStale}, {999, api.ErrStale}, {1000, api.OK}, {3000, api.OK}, {6000, api.OK}, {6001, api.ErrStale}, {greatest, api.ErrStale}} {
		for _, state := range states() {
			s, twin := usual(t, state), usual(t, state)
			c := cookieState()
			c.Made = 1000
			_, err := s.comesBack(c, x.now)
			if x.want != api.OK || state != done {
				if err != x.want {
					t.Errorf("in the state %d at %d Hear is %v, want %v", state, x.now, err, x.want)
				}
			}
			if x.want != api.OK {
				s.asTwin(twin)
			}
		}
	}
}

// P17.2: at times that are not bounded a cookie is as fresh as at the nearest one.
func TestCookieTimes(t *testing.T) {
	for _, x := range []struct {
		made, now int
		want      api.Errno
	}{{0, -5, api.OK}, {0, least, api.OK}, {1, -5, api.ErrStale}, {latest, greatest, api.OK}, {latest - 5000, latest + 1, api.OK}, {latest - 5001, latest + 1, api.ErrStale}, {latest + 1, greatest, api.ErrStale}} {
		c := cookieState()
		c.Made = x.made
		if _, err := usual(t, closed).comesBack(c, x.now); err != x.want {
			t.Errorf("of a cookie of %d Hear at %d is %v, want %v", x.made, x.now, err, x.want)
		}
	}
}

// P17.2: cookies that nobody made, or that are none: cookie.Check's error, ahead of the tag's, and nothing changes.
func TestCookieForged(t *testing.T) {
	good := brought(t, cookieState()).Data
	turned := func(n int) []byte {
		b := append([]byte(nil), good...)
		b[n] ^= 1
		return b
	}
	strange, _ := cookie.Encode([]byte("fedcba9876543210"), cookieState())
	forged := map[api.Errno][][]byte{
		api.ErrShort:  {nil, good[:1], good[:59]},
		api.ErrForm:   {append(turned(0), 0), turned(56), turned(59)},
		api.ErrCookie: {strange, turned(0), turned(7), turned(16), turned(20), turned(47), turned(48), turned(55)},
	}
	for _, state := range states() {
		kept(t, state, func(s *side) {
			for want, l := range forged {
				for _, b := range l {
					for _, tag := range []uint32{mine, theirs, 0} {
						s.refuses(want, tag, api.Chunk{Kind: 10, Data: b})
					}
				}
			}
		})
	}
}

// P17.2: without a key of 16 octets a cookie is ErrArg.
func TestCookieKey(t *testing.T) {
	for _, n := range []int{0, 15, 17} {
		for _, state := range states() {
			c := config()
			c.Key = key()[:min(n, 16)]
			if n == 17 {
				c.Key = append(key(), 1)
			}
			in(t, c, state).refuses(api.ErrArg, mine, brought(t, cookieState()))
		}
	}
}

// P17.2: a cookie that comes under another tag than its own, or whose Tag is 0, is ErrTag, ahead of the state's error.
func TestCookieTag(t *testing.T) {
	for _, state := range states() {
		kept(t, state, func(s *side) {
			for _, tag := range []uint32{0, mine + 1, theirs, top} {
				s.refuses(api.ErrTag, tag, brought(t, cookieState()))
			}
			c := cookieState()
			c.Tag = 0
			s.refuses(api.ErrTag, 0, brought(t, c))
			c.Tag, c.Peer, c.Ties = 0, 0, [2]uint32{mine, theirs}
			s.refuses(api.ErrTag, 0, brought(t, c))
			c.Tag = 5
			s.refuses(api.ErrTag, mine, brought(t, c))
		})
	}
}
