package assoc_test

import (
	"math/rand"
	"testing"

	"bollard/api"
	"bollard/assoc"
	"bollard/cookie"
	"bollard/packet"
)

// script draws calls, most of them such as the other side and an application would make.
type script struct {
	*side
	draw    *rand.Rand
	now     int
	cookies [][]byte // that this side told
	seen    map[int]int
}

func drawn(t *testing.T, draw *rand.Rand, seen map[int]int) *script {
	t.Helper()
	c := config()
	c.Streams, c.Mtu, c.Life = []int{0, 1, 3, 4, 64, 100}[draw.Intn(6)], []int{0, 40, 128, 300, 1200}[draw.Intn(5)], []int{-1, 0, 300, 100000, 1 << 50}[draw.Intn(5)]
	if draw.Intn(30) == 0 {
		c.Key = c.Key[:draw.Intn(16)]
	}
	return &script{begin(t, c), draw, draw.Intn(3), nil, seen}
}

// number is mostly a small one.
func (s *script) number() uint32 {
	if s.draw.Intn(4) > 0 {
		return uint32(s.draw.Intn(4))
	}
	return s.draw.Uint32()
}

// cum is up to where all has come.
func (s *script) cum() uint32 { return s.w.end.Cum() }

// opening is an Init or an InitAck.
func (s *script) opening(kind uint8) api.Chunk {
	c := api.Chunk{Kind: kind, A: 80 + s.number(), B: 65536, Out: uint16(1 + s.draw.Intn(5)), In: uint16(1 + s.draw.Intn(5)), Ppid: 1000 + s.number()}
	switch s.draw.Intn(20) {
	case 0:
		c.A = 0
	case 1:
		c.Out = 0
	case 2:
		c.In = 0
	case 3:
		c.B = s.number()
	}
	if kind == 2 && s.draw.Intn(10) > 0 || s.draw.Intn(10) == 0 {
		c.Params = []api.Param{{Kind: uint16(5 + s.draw.Intn(2))}, {Kind: 7, V: make([]byte, s.draw.Intn(80))}, {Kind: 7}}[s.draw.Intn(2):]
	}
	return c
}

// echo is a CookieEcho, of a cookie that was told, or one that is made here; and the tag that it comes under.
func (s *script) echo() (api.Chunk, uint32) {
	if n := len(s.cookies); n > 0 && s.draw.Intn(2) == 0 {
		b := s.cookies[n-1-s.draw.Intn(min(n, 3))]
		state, _ := cookie.Decode(key(), b)
		return api.Chunk{Kind: 10, Data: b}, state.Tag
	}
	state := cookie.State{Made: max(0, s.now-s.draw.Intn(100)), Life: 90, Tag: s.w.mine + s.number(), Peer: s.w.theirs + s.number(), First: s.draw.Uint32(), PeerFirst: 1000 + s.number(), Room: 65536, Out: uint16(s.draw.Intn(5)), In: uint16(s.draw.Intn(5)), Ties: [2]uint32{s.w.mine, s.w.theirs}}
	switch s.draw.Intn(8) {
	case 0:
		state.Ties = [2]uint32{}
	case 1:
		state.Ties[s.draw.Intn(2)]++
	case 2:
		state.Tag = 0
	case 3:
		state.Room = s.number()
	}
	b, _ := cookie.Encode(key(), state)
	if s.draw.Intn(10) == 0 {
		b[s.draw.Intn(60)] ^= 1
	}
	return api.Chunk{Kind: 10, Data: b}, state.Tag
}

// transfer is Data, a Sack or a Forward near what is next.
func (s *script) transfer() api.Chunk {
	switch s.draw.Intn(5) {
	case 0:
		c := api.Chunk{Kind: 192, A: s.cum() + s.number()}
		for range s.draw.Intn(3) {
			c.Skips = append(c.Skips, api.Skip{Stream: uint16(s.draw.Intn(4)), Ssn: uint16(s.draw.Intn(5))})
		}
		return c
	case 1, 2:
		c := sack(s.w.end.Next()-1-uint32(s.draw.Intn(4)), 65536)
		if s.draw.Intn(3) == 0 {
			c.Blocks = []api.Block{{From: 2, To: 2 + uint16(s.draw.Intn(3))}}
		}
		return c
	}
	c := flight(s.cum()+s.number(), uint16(s.draw.Intn(3)), text(uint16(s.draw.Intn(4)), 1+s.draw.Intn(9)))
	c.Flags = uint8(c.Flags) &^ uint8(s.draw.Intn(8)*s.draw.Intn(2))
	return c
}

// resets is a Reset of some parameters.
func (s *script) resets() api.Chunk {
	var l []api.Param
	for range 1 + s.draw.Intn(3) {
		switch s.draw.Intn(12) {
		case 0:
			l = append(l, api.Param{Kind: uint16(12 + s.draw.Intn(6)), V: make([]byte, s.draw.Intn(14))})
		case 1, 2, 3, 4, 5:
			l = append(l, answer(s.w.asked-1+s.number(), []uint32{1, 1, 1, 6, 0}[s.draw.Intn(5)]).Params[0])
		default:
			l = append(l, ask(2000+s.number()*uint32(s.draw.Intn(5)), s.cum()-1+s.number(), uint16(s.draw.Intn(4)), uint16(s.draw.Intn(70))).Params[0])
		}
	}
	return reset(l...)
}

// chunk is any one that is not an Init or a CookieEcho.
func (s *script) chunk() api.Chunk {
	switch k := s.draw.Intn(100); {
	case k < 50:
		return s.transfer()
	case k < 68:
		return s.resets()
	case k < 76:
		return full(uint8(4 + s.draw.Intn(2)*5))
	case k < 78:
		return api.Chunk{Kind: 8}
	case k < 80:
		return api.Chunk{Kind: 11}
	case k < 83:
		return shutdown(s.number())
	case k == 83:
		return api.Chunk{Kind: 6, Flags: uint8(s.draw.Intn(4))}
	case k < 90:
		return full(uint8(s.draw.Intn(256)))
	}
	return full(5)
}

// packet hands in a packet, most of the time one that may be.
func (s *script) packet() {
	s.t.Helper()
	var l []api.Chunk
	tag := s.w.mine
	switch k := s.draw.Intn(20); {
	case k < 2:
		l, tag = []api.Chunk{s.opening(1)}, 0
	case k < 3 || s.w.state == waiting && k < 10:
		l = []api.Chunk{s.opening(2)}
	case k < 5:
		c, t := s.echo()
		l, tag = []api.Chunk{c}, t
	case k < 6:
		l = []api.Chunk{{Kind: []uint8{14, 8, 6, 11}[s.draw.Intn(4)], Flags: uint8(s.draw.Intn(3))}}
		if l[0].Flags == 1 {
			tag = s.w.theirs
		}
	case s.w.state == echoed && k < 12:
		l = []api.Chunk{{Kind: 11}}
	}
	if len(l) == 0 || !packet.Alone(l[0].Kind) && s.draw.Intn(4) == 0 {
		for range 1 + s.draw.Intn(3) {
			if c := s.chunk(); !packet.Alone(c.Kind) {
				l = append(l, c)
			}
		}
	}
	if len(l) == 0 {
		return
	}
	if s.draw.Intn(20) == 0 {
		tag = []uint32{0, s.w.theirs, s.w.mine + 1, s.w.mine}[s.draw.Intn(4)]
	}
	b := s.packed(tag, l...)
	if s.draw.Intn(40) == 0 {
		b[s.draw.Intn(len(b))] ^= byte(1 + s.draw.Intn(255))
	}
	answers, _ := s.hears(b, s.now, s.number()*uint32(s.draw.Intn(2)))
	for _, p := range answers {
		if p.Chunks[0].Kind == 2 {
			s.cookies = append(s.cookies, p.Chunks[0].Params[0].V)
		}
	}
}

// due is the time at which a timer is due, if one runs.
func (s *script) due() int {
	for _, x := range s.w.timers {
		if x != nil {
			return x.at
		}
	}
	at, _ := s.w.end.Due()
	return at
}

// call makes a call.
func (s *script) call() {
	s.t.Helper()
	s.now += s.draw.Intn(20)
	s.seen[s.w.state]++
	switch k := s.draw.Intn(100); {
	case k < 45:
		s.packet()
	case k < 63:
		s.tell(s.now)
	case k < 71:
		m := text(uint16(s.draw.Intn(4)), 1+s.draw.Intn(300))
		m.Unordered = s.draw.Intn(4) == 0
		s.sends(m, s.draw.Intn(200)-100, s.draw.Intn(5)-3, s.now)
	case k < 77:
		if s.draw.Intn(3) == 0 {
			s.now = max(s.now, s.due()-1+s.draw.Intn(2))
		}
		s.tick(s.now)
	case k < 83:
		s.messages()
	case k < 87:
		s.streams()
	case k < 92:
		s.restarts(s.now, make([]uint16, s.draw.Intn(4)*s.draw.Intn(30))...)
	case k < 97:
		s.start(s.now, s.number())
	case k == 97:
		s.close(s.now)
	case s.draw.Intn(20) == 0:
		s.abort()
	}
}

// P17.1 to P17.5: scripts of all calls, drawn from a fixed seed, answer what the chapter's words do; and they come to each state.
func TestScripts(t *testing.T) {
	draw := rand.New(rand.NewSource(178))
	seen := map[int]int{}
	for range 1500 {
		s := drawn(t, draw, seen)
		for range 200 {
			s.call()
		}
	}
	for _, state := range states() {
		if seen[state] < 3000 {
			t.Errorf("the state %d was met %d times", state, seen[state])
		}
	}
}

// P17.1 to P17.5: likewise of two sides that take turns: they share nothing.
func TestScriptsSideBySide(t *testing.T) {
	draw := rand.New(rand.NewSource(179))
	for range 200 {
		both := [2]*script{drawn(t, draw, map[int]int{}), drawn(t, draw, map[int]int{})}
		for range 300 {
			both[draw.Intn(2)].call()
			both[0].same()
			both[1].same()
		}
	}
}

// P1, P17.2: octets that are drawn, with the ports and the checksum right, or not, are heard as the words hear them.
func TestDrawnOctets(t *testing.T) {
	draw := rand.New(rand.NewSource(180))
	for range 3000 {
		s := usual(t, draw.Intn(9))
		for range 5 {
			b := make([]byte, draw.Intn(60))
			draw.Read(b)
			if len(b) >= 16 && draw.Intn(5) > 0 {
				copy(b, s.packed(mine, api.Chunk{Kind: 8})[:8])
				b[12], b[14], b[15] = []byte{0, 3, 4, 6, 7, 8, 9, 10, 130, 192}[draw.Intn(10)], 0, byte(len(b)-12)
				summed(b)
			}
			s.hears(b, 0, draw.Uint32())
		}
	}
}

// P1: whatever a side is handed in by another one that does as it likes, it ends each call: two sides that hear each other's packets, their own, and old ones.
func TestMirrors(t *testing.T) {
	draw := rand.New(rand.NewSource(181))
	for range 50 {
		c := config()
		c.Port, c.Peer = 7, 7
		a, b := assoc.New(c), assoc.New(c)
		var all [][]byte
		for now := range 200 {
			for _, x := range []*assoc.Assoc{a, b} {
				if draw.Intn(5) == 0 {
					x.Start(now, draw.Uint32())
				}
				all = append(all, x.Tell(100*now)...)
				x.Tick(100 * now)
				x.Send(text(0, 5), always, always, now)
				if len(all) > 0 {
					l, _ := x.Hear(all[draw.Intn(len(all))], now, draw.Uint32())
					all = append(all, l...)
				}
				x.Messages()
			}
		}
	}
}
