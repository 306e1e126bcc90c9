package sfu_test

import (
	"math/rand"
	"slices"
	"strings"
	"testing"

	"bollard/api"
	"bollard/assoc"
	"bollard/audio"
	"bollard/dcep"
)

// script is sides of which one is led by hand: whatever that one does, the other one is held against the words behind each call.
type script struct {
	t    *testing.T
	draw *rand.Rand
	now  int
	much bool // is much said, and little told?
	did  map[string]int
}

// label is a drawn one.
func (s *script) label() string {
	if s.much && s.draw.Intn(4) > 0 {
		return "a"
	}
	return labels[s.draw.Intn(len(labels)-1)]
}

// opening is any, seldom one that may not be.
func (s *script) opening() dcep.Opening {
	o := dcep.Opening{Kind: kinds[s.draw.Intn(6)], Limit: uint32(s.draw.Intn(3) * 1000), Label: s.label()}
	if s.much && s.draw.Intn(2) == 0 {
		o.Kind = 128
	}
	switch s.draw.Intn(30) {
	case 0:
		o.Kind = 3
	case 1:
		o.Label = strings.Repeat("x", 256+s.draw.Intn(2))
	case 2:
		o.Protocol = "\xff"
	}
	return o
}

// message is any that may be said.
func (s *script) message(streams int) api.Message {
	m := api.Message{Stream: uint16(s.draw.Intn(streams)), Unordered: s.draw.Intn(5) == 0, Ppid: []uint32{50, 51, 51, 51, 53, 53, 56, 57, 52}[s.draw.Intn(9)]}
	m.Data = make([]byte, 1+s.draw.Intn(3))
	if s.draw.Intn(8) == 0 || s.much && s.draw.Intn(3) > 0 {
		m.Data = make([]byte, []int{1172, 5000, 16384, 16384}[s.draw.Intn(4)])
	}
	s.draw.Read(m.Data)
	if s.much && s.draw.Intn(4) > 0 {
		m.Stream = 0
	}
	if m.Ppid == 50 {
		m.Data = m.Data[:1]
		m.Data[0] = byte(2 + s.draw.Intn(2))
	}
	return m
}

// leads lets a hand do something.
func (s *script) leads(x *hand, streams int, odd uint16) {
	switch k := s.draw.Intn(30); {
	case k < 8:
		if b, err := dcep.Encode(s.opening()); err == api.OK {
			stream := uint16(s.draw.Intn(streams))
			if s.draw.Intn(6) > 0 {
				stream = stream&^1 | odd
			}
			x.a.Send(api.Message{Stream: stream, Ppid: 50, Data: b}, always, always, s.now)
		}
	case k < 20:
		life, tries := s.draw.Intn(2000)-1000, s.draw.Intn(5)-2
		if s.much {
			life, tries = always, always
		}
		x.a.Send(s.message(streams), life, tries, s.now)
	case k < 23:
		x.a.Restart([]uint16{uint16(s.draw.Intn(streams + 1)), uint16(s.draw.Intn(streams))}[:1+s.draw.Intn(2)], s.now)
	case k == 23 && s.draw.Intn(4) == 0:
		x.a.Close(s.now)
	case k == 24 && s.draw.Intn(4) == 0:
		x.answers = append(x.answers, x.a.Abort()...)
	}
	x.a.Tick(s.now)
}

// octets are any that nobody told.
func (s *script) octets() []byte {
	b := make([]byte, s.draw.Intn(40))
	s.draw.Read(b)
	if s.draw.Intn(2) == 0 && len(b) > 0 {
		b[0] = 128
	}
	return b
}

// sound is any.
func (s *script) sound() audio.Packet {
	return audio.Packet{Marker: s.draw.Intn(2) == 0, Kind: uint8(s.draw.Intn(130)), Seq: uint16(s.draw.Intn(6)), Stamp: s.draw.Uint32(), Source: uint32(s.draw.Intn(2)), Data: make([]byte, s.draw.Intn(4))}
}

// passes hands on what one tells to the other, but what is lost of it.
func (s *script) passes(from, to peer) {
	l := from.give(s.now)
	if s.draw.Intn(10) == 0 {
		s.draw.Shuffle(len(l), func(a, b int) { l[a], l[b] = l[b], l[a] })
	}
	for _, b := range l {
		if s.draw.Intn(20) > 0 {
			to.take(b, s.now)
		}
		if s.draw.Intn(20) == 0 {
			to.take(slices.Clone(b), s.now)
		}
	}
}

// goesOn lets time go by, seldom long.
func (s *script) goesOn() {
	s.now += s.draw.Intn(20)
	if s.draw.Intn(12) == 0 {
		s.now += 3000 + s.draw.Intn(2)*40000
	}
}

// P21.1 to P21.4: scripts of a server all of whose parties are led by hand.
func TestScriptsOfServers(t *testing.T) {
	did := map[string]int{}
	for seed := range int64(150) {
		s := &script{t: t, draw: rand.New(rand.NewSource(5000 + seed)), did: did, much: seed%3 == 0}
		c := config()
		c.Parties, c.Streams, c.Room = 2+s.draw.Intn(2), 1+s.draw.Intn(8), 1+s.draw.Intn(5)
		h := newHost(t, c)
		var l []*hand
		for party := range c.Parties {
			l = append(l, comes(t, h, party))
		}
		for range 300 {
			party := s.draw.Intn(c.Parties)
			x := l[party]
			s.leads(x, c.Streams, 0)
			if s.much && party == 0 {
				exchange(t, s.now, x, seat{h, party})
			}
			switch s.draw.Intn(12) {
			case 0:
				h.hear(party, s.octets(), s.now)
			case 1:
				if b, err := audio.Encode(s.sound()); err == api.OK {
					h.hear(party, b, s.now)
				}
			case 2:
				h.tick(s.now)
			case 3, 4, 5, 6:
				s.passes(x, seat{h, party})
			case 7, 8, 9:
				if s.much && s.draw.Intn(6) > 0 {
					h.tell(party, s.now)
				} else {
					s.passes(seat{h, party}, x)
				}
			}
			if x.a.State() == assoc.Done || h.s.State(party) == assoc.Closed || s.draw.Intn(100) == 0 {
				l[party] = newHand(t, 6000, 5000, draws(s.draw.Uint32()))
				l[party].a.Start(s.now, s.draw.Uint32()|1)
				for range 2 {
					s.passes(l[party], seat{h, party})
					s.passes(seat{h, party}, l[party])
				}
			}
			s.goesOn()
			s.count(h)
		}
	}
	for _, what := range []string{"held", "failed", "lost", "for room", "closed", "restarts that wait"} {
		if did[what] < 20 {
			t.Errorf("%s: %d times", what, did[what])
		}
	}
}

// count counts what a server was brought to.
func (s *script) count(h *host) {
	is := func(what string, so bool) {
		if so {
			s.did[what]++
		}
	}
	is("held", h.w.held() > 0)
	for party, e := range h.w.ends {
		is("failed", h.w.relay.Failed(party, "a"))
		is("lost", h.w.relay.Lost(party) > 0)
		is("for room", h.w.refused[party] != nil)
		is("closed", e.is(assoc.Closed))
		is("restarts that wait", len(e.restarts) > 0)
	}
}

// acts lets a guest do something.
func (s *script) acts(g *guest) {
	switch k := s.draw.Intn(30); {
	case k < 7:
		g.open(s.opening(), s.now)
	case k < 16:
		m := s.message(1)
		g.say(s.label(), m.Ppid == 51, m.Data[:s.draw.Intn(len(m.Data)+1)], s.now)
	case k < 18:
		g.shut(s.label(), s.now)
	case k < 20:
		g.sound(s.sound())
	case k < 22:
		g.heard()
		g.sounds()
	case k < 24:
		g.tick(s.now)
	case k < 25:
		g.take(s.octets(), s.now)
	case k < 26:
		if b, err := audio.Encode(s.sound()); err == api.OK {
			g.take(b, s.now)
		}
	case k == 26 && s.draw.Intn(10) == 0:
		g.close(s.now)
	case k == 27 && s.much:
		for size := api.MaxMessage; size > 0; {
			if g.say(s.label(), false, make([]byte, size), s.now) != api.OK {
				size /= 2
			}
		}
	}
}

// P21.4, P21.5: scripts of a party whose server is led by hand.
func TestScriptsOfParties(t *testing.T) {
	did := map[string]int{}
	for seed := range int64(400) {
		s := &script{t: t, draw: rand.New(rand.NewSource(9000 + seed)), did: did, much: seed%3 == 0}
		c := config()
		c.Streams = 1 + s.draw.Intn(8)
		g := newGuest(t, c)
		x := receives(t, g)
		for range 200 {
			s.acts(g)
			s.leads(x, c.Streams, 1)
			switch s.draw.Intn(3) {
			case 0:
				if s.much && s.draw.Intn(6) > 0 {
					g.give(s.now)
				} else {
					s.passes(g, x)
				}
			case 1:
				s.passes(x, g)
			}
			if s.draw.Intn(150) == 0 { // the other side begins again
				x = newHand(t, 5000, 6000, draws(s.draw.Uint32()))
				x.a.Start(s.now, s.draw.Uint32()|1)
			}
			s.goesOn()
			s.countOf(g)
			if g.w.is(assoc.Done) && s.draw.Intn(10) == 0 {
				break
			}
		}
	}
	for _, what := range []string{"done", "made anew", "restarts that wait", "answers that wait", "heard"} {
		if did[what] < 20 {
			t.Errorf("%s: %d times", what, did[what])
		}
	}
}

// countOf counts what a party was brought to.
func (s *script) countOf(g *guest) {
	is := func(what string, so bool) {
		if so {
			s.did[what]++
		}
	}
	is("done", g.w.is(assoc.Done))
	is("made anew", g.w.is(assoc.Open) && g.w.times > 1)
	is("restarts that wait", len(g.w.restarts) > 0)
	is("answers that wait", len(g.w.replies) > 0)
	is("heard", len(g.w.said) > 0)
}
