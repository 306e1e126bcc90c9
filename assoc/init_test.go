package assoc_test

import (
	"reflect"
	"testing"

	"bollard/api"
	"bollard/assoc"
	"bollard/cookie"
)

// invited hands in an Init, and asks for one InitAck under the Init's A; what it has, and what its cookie has.
func (s *side) invited(c api.Chunk, now int, draw uint32) (api.Chunk, cookie.State) {
	s.t.Helper()
	l, err := s.hears(s.packed(0, c), now, draw)
	if err != api.OK || len(l) != 1 || len(l[0].Chunks) != 1 {
		s.t.Fatalf("Hear of %v is %v, %v", c, l, err)
	}
	p, ack := l[0], l[0].Chunks[0]
	if p.From != s.w.c.Port || p.To != s.w.c.Peer || p.Tag != c.A || ack.Kind != api.InitAck || len(ack.Params) != 1 || ack.Params[0].Kind != 7 {
		s.t.Fatalf("the answer to %v is %v", c, p)
	}
	state, err := cookie.Decode(s.w.c.Key, ack.Params[0].V)
	if err != api.OK {
		s.t.Fatalf("the cookie of %v is %v", ack, err)
	}
	ack.Params = nil
	return ack, state
}

// ackOf is the InitAck that is asked for, but for the cookie.
func ackOf(tag uint32, out, in uint16) api.Chunk {
	return api.Chunk{Kind: 2, A: tag, B: 65536, Out: out, In: in, Ppid: tag}
}

// P17.2: Init in Closed: every field of the InitAck, and every one of the cookie.
func TestInit(t *testing.T) {
	for _, x := range []struct{ draw, tag uint32 }{{0, 1}, {1, 1}, {2, 2}, {99, 99}, {top, top}} {
		s := usual(t, closed)
		ack, state := s.invited(invitation(), 1234, x.draw)
		if want := ackOf(x.tag, 2, 4); !reflect.DeepEqual(ack, want) {
			t.Errorf("the answer is %v, want %v", ack, want)
		}
		want := cookie.State{Made: 1234, Life: 5000, Tag: x.tag, Peer: theirs, First: x.tag, PeerFirst: peerFirst, Room: 70000, Out: 2, In: 3, Ties: [2]uint32{0, 0}}
		if state != want {
			t.Errorf("the cookie is %v, want %v", state, want)
		}
		s.state(closed)
		s.tags(0, 0, 0)
	}
}

// P17.2: what an Init has stands in the cookie, each in its place.
func TestInitFields(t *testing.T) {
	for _, c := range []api.Chunk{
		{Kind: 1, A: 1, Out: 1, In: 1},
		{Kind: 1, A: top, B: top, Out: 65535, In: 65535, Ppid: top},
		{Kind: 1, A: half, B: 3, Out: 4, In: 5, Ppid: 6, Flags: 255},
		{Kind: 1, A: 7, B: 8, Out: 3, In: 1, Ppid: 9, Params: []api.Param{{Kind: 7, V: []byte{1}}, {Kind: 1}}},
	} {
		s := usual(t, closed)
		ack, state := s.invited(c, 0, 55)
		out, in := min(4, c.In), min(4, c.Out)
		if want := ackOf(55, out, 4); !reflect.DeepEqual(ack, want) {
			t.Errorf("the answer to %v is %v, want %v", c, ack, want)
		}
		if want := (cookie.State{Life: 5000, Tag: 55, Peer: c.A, First: 55, PeerFirst: c.Ppid, Room: c.B, Out: out, In: in}); state != want {
			t.Errorf("the cookie of %v is %v, want %v", c, state, want)
		}
	}
}

// P17.2: of streams there are as many as both sides have.
func TestInitStreams(t *testing.T) {
	for _, x := range numbersOfStreams {
		for _, n := range []int{1, 2, 3, 62, 63, 64, 65, 1000, 65535} {
			c := config()
			c.Streams = x.number
			s := begin(t, c)
			asked := invitation()
			asked.Out, asked.In = 2, uint16(n)
			ack, state := s.invited(asked, 0, 9)
			if int(ack.Out) != min(x.want, n) || int(ack.In) != x.want || int(state.Out) != min(x.want, n) || int(state.In) != min(x.want, 2) {
				t.Errorf("of %d streams and %v the answer is %v, the cookie %v", x.number, asked, ack, state)
			}
			asked.Out, asked.In = uint16(n), 2
			ack, state = s.invited(asked, 0, 9)
			if int(ack.Out) != min(x.want, 2) || int(ack.In) != x.want || int(state.Out) != min(x.want, 2) || int(state.In) != min(x.want, n) {
				t.Errorf("of %d streams and %v the answer is %v, the cookie %v", x.number, asked, ack, state)
			}
		}
	}
}

// P17.2: Life and the time at which a cookie is made are bounded.
func TestInitTimes(t *testing.T) {
	for _, life := range []int{least, -1, 0, 1, 60000, latest - 1, latest, latest + 1, greatest} {
		for _, now := range []int{least, -1, 0, 1, 60000, latest - 1, latest, latest + 1, greatest} {
			c := config()
			c.Life = life
			_, state := begin(t, c).invited(invitation(), now, 9)
			if state.Made != max(0, min(now, latest)) || state.Life != max(0, min(life, latest)) {
				t.Errorf("of Life %d at %d the cookie is made at %d and lives %d", life, now, state.Made, state.Life)
			}
		}
	}
}

// P17.2: Init in each state: by which tag it is answered, and what the cookie is tied to; from ShutSent on ErrState. Nothing changes in any.
func TestInitInEachState(t *testing.T) {
	ties := map[int][2]uint32{closed: {0, 0}, waiting: {mine, 0}, echoed: {mine, theirs}, open: {mine, theirs}, closing: {mine, theirs}}
	for _, state := range states() {
		kept(t, state, func(s *side) {
			c := invitation()
			c.A = 4321
			if state >= shutSent {
				s.refuses(api.ErrState, 0, c)
				return
			}
			tag := uint32(1111)
			if state == waiting || state == echoed {
				tag = mine
			}
			ack, told := s.invited(c, 6, 1111)
			if want := ackOf(tag, 2, 4); !reflect.DeepEqual(ack, want) {
				t.Errorf("in the state %d the answer is %v, want %v", state, ack, want)
			}
			want := cookie.State{Made: 6, Life: 5000, Tag: tag, Peer: 4321, First: tag, PeerFirst: peerFirst, Room: 70000, Out: 2, In: 3, Ties: ties[state]}
			if told != want {
				t.Errorf("in the state %d the cookie is %v, want %v", state, told, want)
			}
		})
	}
}

// P17.2: a drawn 0 is the tag 1 in Open, too; in Waiting it is all one what is drawn.
func TestInitDrawsNothing(t *testing.T) {
	for state, want := range map[int]uint32{closed: 1, waiting: mine, echoed: mine, open: 1, closing: 1} {
		if ack, told := usual(t, state).invited(invitation(), 0, 0); ack.A != want || ack.Ppid != want || told.Tag != want || told.First != want {
			t.Errorf("in the state %d the answer is %v, the cookie %v", state, ack, told)
		}
	}
}

// without are Inits that may not be.
func without() []api.Chunk {
	a, out, in := invitation(), invitation(), invitation()
	a.A, out.Out, in.In = 0, 0, 0
	return []api.Chunk{a, out, in, {Kind: 1}}
}

// P17.2: the errors of an Init: the tag's first, then those of what it has and of the key, then the state's. Nothing changes.
func TestInitErrors(t *testing.T) {
	for _, state := range states() {
		kept(t, state, func(s *side) {
			for _, tag := range []uint32{1, mine, theirs, half, top} {
				s.refuses(api.ErrTag, tag, invitation())
				s.refuses(api.ErrTag, tag, without()[0])
			}
			for _, c := range without() {
				s.refuses(api.ErrArg, 0, c)
			}
		})
	}
}

// P17.2: without a key of 16 octets an Init is ErrArg, in each state.
func TestInitKey(t *testing.T) {
	for _, n := range []int{0, 1, 8, 15, 17, 32, 1000} {
		for _, state := range states() {
			c := config()
			c.Key = make([]byte, n)
			s := in(t, c, state)
			s.refuses(api.ErrArg, 0, invitation())
			s.refuses(api.ErrTag, 1, invitation())
			c.Key = nil
			in(t, c, state).refuses(api.ErrArg, 0, invitation())
		}
	}
}

// P17.2: an Init that is not alone is no packet.
func TestInitNotAlone(t *testing.T) {
	for _, state := range states() {
		kept(t, state, func(s *side) {
			for _, c := range []api.Chunk{invitation(), welcome(), {Kind: 14}} {
				for _, b := range [][]byte{crowded(t, c, api.Chunk{Kind: 11}), crowded(t, api.Chunk{Kind: 11}, c)} {
					if l, err := s.hears(b, 0, 5); err != api.ErrForm || len(l) != 0 {
						t.Errorf("Hear is %v, %v", l, err)
					}
				}
			}
		})
	}
}

// P17.2, P17.6: before a cookie comes back nothing is kept, however many ask.
func TestInitKeepsNothing(t *testing.T) {
	a := assoc.New(config())
	c := invitation()
	for n := range uint32(2000) {
		c.A, c.Ppid = n+1, 3*n
		l, err := a.Hear(packed(t, api.Packet{From: peer, To: port, Chunks: []api.Chunk{c}}), int(n), n)
		if err != api.OK || len(l) != 1 {
			t.Fatalf("Hear is %v, %v", l, err)
		}
	}
	if !reflect.DeepEqual(a, assoc.New(config())) {
		t.Errorf("something is kept")
	}
}
