package assoc_test

import (
	"bytes"
	"testing"

	"bollard/api"
)

// P17.2: InitAck in Waiting: the other side's tag is its A, the state Echoed, and a CookieEcho of its cookie is told, under that tag; once.
func TestInitAck(t *testing.T) {
	for _, c := range []api.Chunk{
		{Kind: 2, A: theirs, B: 70000, Out: 3, In: 2, Ppid: peerFirst, Params: []api.Param{{Kind: 7, V: []byte("brought")}}},
		{Kind: 2, A: top, Out: 1, In: 1, Params: []api.Param{{Kind: 7}}},
		{Kind: 2, Flags: 255, A: half, B: top, Out: 65535, In: 65535, Ppid: top, Params: []api.Param{{Kind: 1, V: []byte{1}}, {Kind: 7, V: make([]byte, 60)}, {Kind: 7, V: []byte{2}}}},
		{Kind: 2, A: 1, B: 1, Out: 64, In: 64, Ppid: 1, Params: []api.Param{{Kind: 7, V: bytes.Repeat([]byte{5}, 1164)}}},
	} {
		s := usual(t, waiting)
		s.hear(10, c)
		s.state(echoed)
		s.tags(mine, c.A, 1)
		want := api.Chunk{Kind: 10}
		for _, p := range c.Params {
			if p.Kind == 7 {
				want.Data = p.V
				break
			}
		}
		s.tells(10, want)
		s.tells(10)
		s.hear(20, api.Chunk{Kind: 11})
		s.state(open)
		s.tags(mine, c.A, 1)
		s.isEnd(mine, c.Ppid, int(c.B), min(4, int(c.In)), min(4, int(c.Out)))
	}
}

// P17.2: of streams there are as many as both sides have.
func TestInitAckStreams(t *testing.T) {
	for _, x := range numbersOfStreams {
		for _, n := range []uint16{1, 3, 63, 64, 65, 65535} {
			for _, out := range []bool{true, false} {
				c := config()
				c.Streams = x.number
				s := in(t, c, waiting)
				ack := welcome()
				ack.Out, ack.In = 2, n
				if out {
					ack.Out, ack.In = n, 2
				}
				s.hear(0, ack)
				s.tell(0)
				s.hear(0, api.Chunk{Kind: 11})
				s.isEnd(mine, peerFirst, 70000, min(x.want, int(ack.In)), min(x.want, int(ack.Out)))
			}
		}
	}
}

// P17.2: an InitAck without a tag, streams or a cookie is ErrArg in Waiting, and changes nothing; in other states its state is asked first.
func TestInitAckErrors(t *testing.T) {
	a, out, in, none, others := welcome(), welcome(), welcome(), welcome(), welcome()
	a.A, out.Out, in.In, none.Params = 0, 0, 0, nil
	others.Params = []api.Param{{Kind: 6, V: []byte{1}}, {Kind: 8}, {Kind: 7 + 256, V: make([]byte, 60)}, {Kind: 13}}
	for _, c := range []api.Chunk{a, out, in, none, others, {Kind: 2}} {
		for _, state := range states()[waiting:done] {
			kept(t, state, func(s *side) {
				want := api.ErrState
				if state == waiting {
					want = api.ErrArg
				}
				s.refuses(want, mine, c)
			})
		}
	}
}

// P17.2: a second InitAck is ErrState, and the first one's cookie is told.
func TestInitAckTwice(t *testing.T) {
	s := usual(t, waiting)
	s.hear(0, welcome())
	second := welcome()
	second.A, second.Params[0].V = 4321, []byte("another")
	s.refuses(api.ErrState, mine, second)
	s.refuses(api.ErrState, mine, welcome())
	s.tags(mine, theirs, 1)
	s.tells(0, api.Chunk{Kind: 10, Data: []byte("brought")})
}

// P17.2: the Init is told no more behind the InitAck, though it was not told yet or is due.
func TestInitAckSilencesInit(t *testing.T) {
	s := begin(t, config())
	s.start(0, mine)
	s.hear(0, welcome())
	s.tells(0, api.Chunk{Kind: 10, Data: []byte("brought")})

	s = usual(t, waiting)
	s.tick(3000)
	s.hear(3000, welcome())
	s.tells(3000, api.Chunk{Kind: 10, Data: []byte("brought")})
	s.tick(5999)
	s.tells(5999)
	s.tick(6000)
	s.tells(6000, api.Chunk{Kind: 10, Data: []byte("brought")})
}

// P17.2: CookieAck in Echoed: Open, and the CookieEcho is told no more.
func TestCookieAck(t *testing.T) {
	for _, late := range []bool{false, true} {
		s := usual(t, echoed)
		if late {
			s.tick(3000)
		}
		s.hear(3000, api.Chunk{Kind: 11})
		s.state(open)
		s.tags(mine, theirs, 1)
		for now := 3000; now < 1000000; now += 1000 {
			s.tells(now)
			s.tick(now)
		}
		s.state(open)
	}
	s := usual(t, waiting)
	s.hear(0, welcome())
	s.hear(0, api.Chunk{Kind: 11})
	s.state(open)
	s.tells(0)
}

// P17.2: nothing is sent or taken in ahead of Open.
func TestNothingAheadOfOpen(t *testing.T) {
	for _, state := range []int{closed, waiting, echoed} {
		kept(t, state, func(s *side) {
			if err := s.sends(text(0, 1), always, always, 0); err != api.ErrState {
				t.Errorf("in the state %d Send is %v", state, err)
			}
			s.hearsChunks(mine, 0, flight(peerFirst, 0, text(0, 1)))
			s.has()
			s.tells(0)
		})
	}
}
