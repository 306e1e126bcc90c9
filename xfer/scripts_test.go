package xfer_test

import (
	"math/rand"
	"testing"

	"bollard/api"
	"bollard/xfer"
)

// script draws calls, most of them such as a peer and an application would make.
type script struct {
	*pair
	draw *rand.Rand
	now  int
}

// drawn begins a script of a config that is drawn.
func drawn(t *testing.T, draw *rand.Rand) *script {
	t.Helper()
	c := xfer.Config{First: firsts[draw.Intn(len(firsts))], PeerFirst: firsts[draw.Intn(len(firsts))], Room: 65536, Out: 3, In: 3, Mtu: []int{1, 2, 28, 30, 31, 40, 128, 1200}[draw.Intn(8)]}
	if draw.Intn(4) == 0 {
		c.Room = uint32(draw.Intn(3 * c.Mtu))
	}
	return &script{start(t, c), draw, draw.Intn(3)}
}

// message is one that may be sent most of the time.
func (s *script) message() api.Message {
	m := api.Message{Stream: uint16(s.draw.Intn(3)), Unordered: s.draw.Intn(4) == 0, Ppid: s.draw.Uint32(), Data: make([]byte, 1+s.draw.Intn(60))}
	switch s.draw.Intn(400) {
	case 0, 1, 2, 3:
		m.Data = nil
	case 4:
		m.Data = make([]byte, 16380+s.draw.Intn(10))
	case 5, 6, 7, 8:
		m.Stream = uint16(s.draw.Intn(6))
	case 9, 10, 11, 12, 13, 14, 15, 16, 17:
		m.Data = make([]byte, 1+s.draw.Intn(2000))
	}
	s.draw.Read(m.Data)
	return m
}

// bound is a life, or tries: none, or few.
func (s *script) bound(most int) int {
	if s.draw.Intn(3) > 0 {
		return -1 - s.draw.Intn(3)
	}
	return s.draw.Intn(most)
}

// data is a chunk near the floor, or far from it.
func (s *script) data() api.Chunk {
	c := api.Chunk{Kind: api.Data, Flags: alone, A: s.end.Cum() + uint32(s.draw.Intn(6)), Out: uint16(s.draw.Intn(3)), In: uint16(s.draw.Intn(6)), Ppid: 51, Data: make([]byte, 1+s.draw.Intn(9))}
	if s.draw.Intn(3) == 0 {
		c.Flags = uint8(s.draw.Intn(8))
	}
	s.draw.Read(c.Data)
	switch s.draw.Intn(60) {
	case 0:
		c.A = s.end.Cum() + 1020 + uint32(s.draw.Intn(10))
	case 1:
		c.A = s.end.Cum() + half - 2 + uint32(s.draw.Intn(4))
	case 2:
		c.A -= uint32(s.draw.Intn(9))
	case 3:
		c.Out = uint16(s.draw.Intn(9))
	case 4:
		c.Data = nil
	case 5:
		c.Data = make([]byte, s.draw.Intn(70000))
	case 6, 7:
		n := c.A
		c = full(0)
		c.A = n
	}
	return c
}

// answer is a Sack near the queue's floor.
func (s *script) answer() api.Chunk {
	floor := s.words.queue.Floor()
	c := sack(floor, []uint32{65536, 65536, 65536, 0, uint32(s.draw.Intn(300)), s.draw.Uint32()}[s.draw.Intn(6)])
	switch s.draw.Intn(8) {
	case 0, 1, 2:
		c.A += uint32(s.draw.Intn(4))
	case 3:
		for n := s.end.Next() - floor; n > 0; n-- {
			if state, there := s.words.queue.State(floor + n); there && state == 1 {
				c.A += n
				break
			}
		}
	case 4:
		c.A -= uint32(s.draw.Intn(3))
	}
	for from := 1 + s.draw.Intn(3); s.draw.Intn(3) > 0; from += 2 + s.draw.Intn(3) {
		c.Blocks = append(c.Blocks, block(uint16(from), uint16(from+s.draw.Intn(4))))
	}
	return c
}

// skipping is a Forward near the floor.
func (s *script) skipping() api.Chunk {
	c := forward(s.end.Cum() + uint32(s.draw.Intn(8)) - 2)
	if s.draw.Intn(20) == 0 {
		c.A += half - 4
	}
	for s.draw.Intn(3) > 0 {
		c.Skips = append(c.Skips, hop(uint16(s.draw.Intn(4)), uint16(s.draw.Intn(6))))
	}
	return c
}

// call makes a call.
func (s *script) call() {
	s.t.Helper()
	s.now += s.draw.Intn(60)
	switch k := s.draw.Intn(100); {
	case k < 20:
		s.sends(s.message(), s.bound(200), s.bound(3), s.now)
	case k < 50:
		s.tell(s.now)
	case k < 75:
		s.hears(s.answer(), s.now)
	case k < 85:
		s.hears(s.data(), s.now)
	case k < 88:
		s.hears(s.skipping(), s.now)
	case k < 90:
		s.hears(full(uint8(s.draw.Intn(256))), s.now)
	case k < 94:
		s.late()
	case k < 95:
		s.restart(uint16(s.draw.Intn(4)), s.draw.Intn(2) == 0)
	default:
		s.messages()
	}
}

// late lets time go by, up to about when the timer is due.
func (s *script) late() {
	s.t.Helper()
	if at, runs := s.end.Due(); runs && s.draw.Intn(2) == 0 {
		s.now = max(s.now, at-1+s.draw.Intn(2))
	}
	s.ticks(s.now)
}

// P16.1 to P16.5: scripts of all calls, drawn from a fixed seed, answer what the chapter's words do.
func TestScripts(t *testing.T) {
	draw := rand.New(rand.NewSource(166))
	for range 800 {
		s := drawn(t, draw)
		for range 300 {
			s.call()
		}
	}
}

// P16.1 to P16.5: likewise of two Ends side by side: they share nothing.
func TestScriptsSideBySide(t *testing.T) {
	draw := rand.New(rand.NewSource(167))
	for range 100 {
		both := [2]*script{drawn(t, draw), drawn(t, draw)}
		for range 400 {
			both[draw.Intn(2)].call()
			both[0].same()
			both[1].same()
		}
	}
}

// P1: numbers at all edges, of all calls.
func TestEdges(t *testing.T) {
	draw := rand.New(rand.NewSource(168))
	edges := []int{least, least + 1, -latest, -1, 0, 1, 3000, 1 << 31, 1 << 32, latest - 1, latest, latest + 1, greatest - 1, greatest}
	edge := func() int { return edges[draw.Intn(len(edges))] }
	for range 300 {
		s := &script{start(t, xfer.Config{First: draw.Uint32(), PeerFirst: draw.Uint32(), Room: draw.Uint32(), Out: edge(), In: edge(), Mtu: edge()}), draw, 0}
		for range 60 {
			s.sends(s.message(), edge(), edge(), edge())
			s.tell(edge())
			s.hears(s.answer(), edge())
			s.hears(s.data(), edge())
			s.hears(s.skipping(), edge())
			s.ticks(edge())
			s.restart(uint16(edge()), draw.Intn(2) == 0)
			s.messages()
		}
	}
}
