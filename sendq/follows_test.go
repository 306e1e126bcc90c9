package sendq_test

import (
	"bytes"
	"math/rand"
	"slices"
	"testing"

	"bollard/api"
	"bollard/sendq"
)

// runs are heights as blocks, as they stand.
func runs(heights []uint16) []api.Block {
	var l []api.Block
	for _, h := range heights {
		l = append(l, block(h, h))
	}
	return l
}

// P15.7: as long as nothing is lost Take tells what was pushed, in order, each once; what is told to have come goes away.
func TestInOrder(t *testing.T) {
	draw := rand.New(rand.NewSource(155))
	for range 300 {
		first := firsts[draw.Intn(len(firsts))]
		p := start(t, first)
		var pushed, told []api.Chunk
		for range 60 {
			switch draw.Intn(3) {
			case 0:
				var l []api.Chunk
				for range 1 + draw.Intn(4) {
					c := piece(uint16(draw.Intn(5)), uint16(draw.Intn(9)), uint8(draw.Intn(8)), 1+draw.Intn(30))
					draw.Read(c.Data)
					l = append(l, c)
				}
				p.push(-1, -1, l...)
				pushed = append(pushed, l...)
			case 1:
				told = append(told, p.take(draw.Intn(1000), draw.Intn(80))...)
			case 2:
				sent := len(p.words.reached()) - 1
				p.ack(uint32(draw.Intn(sent+1)), draw.Intn(1000))
			}
		}
		told = append(told, p.take(0, greatest)...)
		for i := range pushed {
			pushed[i].A = first + uint32(i)
		}
		if !sameChunks(told, pushed) {
			t.Fatalf("there are told %v, pushed %v", told, pushed)
		}
		p.ack(uint32(p.queue.Len()), 0)
		p.states("")
	}
}

// P15.7: whatever is lost on its way, what is told by Take and by Ack brings all away in the end; no number is told any more once the floor has reached it.
func TestAllGoesAway(t *testing.T) {
	draw := rand.New(rand.NewSource(156))
	for range 200 {
		p := start(t, firsts[draw.Intn(len(firsts))])
		there := map[int64]bool{}
		for range 1 + draw.Intn(40) {
			p.push(-1, -1, slices.Repeat([]api.Chunk{data(10)}, 1+draw.Intn(4))...)
		}
		for step := 0; p.queue.Len() > 0; step++ {
			if step > 5000 {
				t.Fatalf("%s is left", p.words.letters())
			}
			told := p.take(step, 10*(1+draw.Intn(10)))
			for _, c := range told {
				place := p.words.floor() + int64(c.A-p.queue.Floor())
				if place <= p.words.floor() {
					t.Fatalf("%d is told, the floor is %d", place, p.words.floor())
				}
				there[place] = there[place] || draw.Intn(3) > 0
			}
			if draw.Intn(3) > 0 {
				p.answer(there, step)
			}
			if draw.Intn(20) == 0 || len(told) == 0 {
				p.timeout(p.queue.Flying() / 10)
			}
		}
	}
}

// answer tells the Queue what is there, as one that receives would.
func (p *pair) answer(there map[int64]bool, now int) {
	p.t.Helper()
	floor, up := p.words.floor(), uint32(0)
	for there[floor+int64(up)+1] {
		up++
	}
	var heights []uint16
	for h := uint16(1); h < 200; h++ {
		if there[floor+int64(up)+int64(h)] {
			heights = append(heights, h)
		}
	}
	if _, ok := p.ack(up, now, runs(heights)...); !ok {
		p.t.Fatalf("an answer up to %d above %d is none", up, floor)
	}
}

// script draws calls, most of them such as one that sends would make.
type script struct {
	*pair
	draw *rand.Rand
	now  int
}

func (s *script) chunks() []api.Chunk {
	var l []api.Chunk
	for range 1 + s.draw.Intn(4) {
		c := piece(uint16(s.draw.Intn(4)), uint16(s.draw.Intn(6)), uint8(s.draw.Intn(16)), 1+s.draw.Intn(20))
		c.A = s.draw.Uint32()
		switch s.draw.Intn(80) {
		case 0:
			c.Kind = uint8(s.draw.Intn(256))
		case 1:
			c.Data = nil
		case 2:
			c = full()
		}
		l = append(l, c)
	}
	return l
}

// bound is an until or tries: none, some near a number, or any.
func (s *script) bound(near int) int {
	switch s.draw.Intn(4) {
	case 0, 1:
		return -1
	case 2:
		return near + s.draw.Intn(4)
	}
	return s.draw.Intn(2*near+2) - near
}

func (s *script) blocks() []api.Block {
	var l []api.Block
	for range s.draw.Intn(5) {
		from := uint16(s.draw.Intn(12))
		b := block(from, from+uint16(s.draw.Intn(4)))
		switch s.draw.Intn(20) {
		case 0:
			b.To = uint16(s.draw.Intn(65536))
		case 1:
			b.From, b.To = b.To, b.From
		}
		l = append(l, b)
	}
	return l
}

// call makes a call.
func (s *script) call() {
	s.t.Helper()
	s.now += s.draw.Intn(4)
	switch k := s.draw.Intn(100); {
	case k < 25:
		s.pushes(s.bound(s.now), s.bound(1), s.chunks()...)
	case k < 50:
		for _, c := range s.take(s.now, s.draw.Intn(100)-5) {
			if c.A-s.queue.Floor() > 1024 {
				s.t.Fatalf("%d is told, the floor is %d", c.A, s.queue.Floor())
			}
		}
	case k < 75:
		s.ack(0, s.now, s.blocks()...)
	case k < 85:
		s.ack(uint32(s.draw.Intn(6)), s.now, s.blocks()...)
	case k < 88:
		s.ack(s.draw.Uint32()>>s.draw.Intn(32)-5, s.now, s.blocks()...)
	case k < 92:
		s.timeout(s.words.flying())
	default:
		s.expires(s.now + s.draw.Intn(5) - 2)
	}
}

// flying is how many entries fly.
func (w *words) flying() int { return bytes.Count([]byte(w.letters()), []byte("F")) }

// expires asks for what the words tell.
func (p *pair) expires(now int) {
	p.t.Helper()
	want := p.words.expire(now)
	if got := p.queue.Expire(now); got != want {
		p.t.Fatalf("Expire(%d) is %d, want %d", now, got, want)
	}
	p.same()
}

// P15.1 to P15.7: scripts of all calls, drawn from a fixed seed, answer what the chapter's words do; the floor never goes back.
func TestScripts(t *testing.T) {
	draw := rand.New(rand.NewSource(157))
	for range 1000 {
		s := &script{start(t, firsts[draw.Intn(len(firsts))]), draw, 0}
		for range 200 {
			s.call()
		}
	}
}

// P15.1 to P15.7: likewise of two Queues side by side: they share nothing.
func TestScriptsSideBySide(t *testing.T) {
	draw := rand.New(rand.NewSource(158))
	for range 100 {
		var both [2]*script
		first := firsts[draw.Intn(len(firsts))]
		for i := range both {
			both[i] = &script{start(t, first), draw, 0}
		}
		for range 300 {
			both[draw.Intn(2)].call()
			both[0].same()
			both[1].same()
		}
	}
}

// R3: neither chunks, their octets, nor those that stand behind them in the same memory are changed or kept.
func TestChunksAreNotKept(t *testing.T) {
	all := bytes.Repeat([]byte{1, 2, 3, 4, 5, 6, 7, 8}, 4)
	before := slices.Clone(all)
	l := []api.Chunk{data(1), data(1), full(), data(1)}
	l[0].Data, l[1].Data = all[0:3], all[2:8]
	handed := copiedAll(l)
	q := sendq.New(7)
	q.Push(l[:3], -1, -1)
	if !bytes.Equal(all, before) || !sameChunks(l, handed) {
		t.Errorf("what was handed in became %v", l)
	}
	turnAll(l)
	written := bytes.Repeat([]byte{99}, len(all))
	copy(all, written)
	want := handed[:3]
	for i := range want {
		want[i].A = 7 + uint32(i)
	}
	for range 3 {
		told := q.Take(0, 100)
		if !sameChunks(told, want) {
			t.Errorf("Take is %v, want %v", told, want)
		}
		turnAll(told)
		q.Timeout()
	}
	if !bytes.Equal(all, written) {
		t.Errorf("what was handed in has turned with what was told: %v", all)
	}
}

// R3: what Take told is new memory: turning it, and laying something behind it, changes no other chunk, and nothing that is told later.
func TestTakeIsNewMemory(t *testing.T) {
	q := sendq.New(7)
	same := full()
	q.Push([]api.Chunk{same, same, same}, -1, -1)
	l := q.Take(0, 100)
	first := copiedAll(l)
	turnAll(l[:1])
	if !sameChunks(l[1:], first[1:]) {
		t.Errorf("the others have turned with the first one: %v", l[1:])
	}
	q.Timeout()
	again := q.Take(0, 100)
	for _, c := range l[1:] {
		c.Data, c.Blocks, c.Dups, c.Skips = append(c.Data, 55, 56), append(c.Blocks, block(77, 78)), append(c.Dups, 77), append(c.Skips, hop(77, 78))
		c.Params[0].V = append(c.Params[0].V, 57)
		c.Params = append(c.Params, api.Param{Kind: 77})
		turnAll([]api.Chunk{c})
	}
	turnAll(append(l, data(9)))
	turnAll(l)
	if !sameChunks(again, first) {
		t.Errorf("told again it is %v, want %v", again, first)
	}
	q.Timeout()
	if last := q.Take(0, 100); !sameChunks(last, first) {
		t.Errorf("told at last it is %v, want %v", last, first)
	}
}

// R3: blocks that were handed in are neither changed nor kept.
func TestBlocksAreNotKept(t *testing.T) {
	q := sendq.New(1)
	q.Push(many(8), -1, -1)
	q.Take(0, 8)
	all := []api.Block{block(7, 3), block(4, 5), block(2, 2), block(0, 0), block(8, 8)}
	before := slices.Clone(all)
	if r, ok := q.Ack(0, all[:3], 5); !ok || r != (sendq.Result{Bytes: 3, Sample: -1}) {
		t.Errorf("Ack is %v, %v", r, ok)
	}
	if !slices.Equal(all, before) {
		t.Errorf("the blocks became %v", all)
	}
	for i := range all {
		all[i] = block(1, 65535)
	}
	if got, _ := q.State(8); got != sendq.Flying || q.Flying() != 5 {
		t.Errorf("State(8) is %d, Flying %d", got, q.Flying())
	}
}
