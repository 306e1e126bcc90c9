package join_test

import (
	"bytes"
	"math/rand"
	"slices"
	"testing"

	"bollard/api"
	"bollard/join"
	"bollard/split"
)

// drawnMessages are messages of a stream, some of them without order, and their chunks, numbered from a first one on and cut into pieces of a drawn length.
func drawnMessages(draw *rand.Rand, count int, stream uint16, number uint16, tsn uint32) ([]api.Message, []api.Chunk) {
	var messages []api.Message
	var chunks []api.Chunk
	for range count {
		m := api.Message{Stream: stream, Unordered: draw.Intn(4) == 0, Ppid: uint32(50 + draw.Intn(2)), Data: make([]byte, 1+draw.Intn(40))}
		draw.Read(m.Data)
		l, _ := split.Split(m, tsn, number, 1+draw.Intn(20))
		if !m.Unordered {
			number++
		}
		tsn += uint32(len(l))
		messages, chunks = append(messages, m), append(chunks, l...)
	}
	return messages, chunks
}

// inOrder are those that have an order.
func inOrder(l []api.Message) []api.Message {
	return slices.DeleteFunc(slices.Clone(l), func(m api.Message) bool { return m.Unordered })
}

// without are those that have no order, sorted by their Data.
func without(l []api.Message) []api.Message {
	l = slices.DeleteFunc(slices.Clone(l), func(m api.Message) bool { return !m.Unordered })
	slices.SortFunc(l, func(a, b api.Message) int { return bytes.Compare(a.Data, b.Data) })
	return l
}

// copiedMessages are messages in memory of their own.
func copiedMessages(l []api.Message) []api.Message {
	l = slices.Clone(l)
	for i := range l {
		l[i].Data = slices.Clone(l[i].Data)
	}
	return l
}

// P14.5: chunks of messages of one stream, in whatever order they come, some of them twice while they are held, are its messages in the order of their numbers, each once.
func TestWhateverOrder(t *testing.T) {
	draw := rand.New(rand.NewSource(145))
	for range 400 {
		next, tsn := shorts[draw.Intn(len(shorts))], numbers[draw.Intn(len(numbers))]
		messages, chunks := drawnMessages(draw, 1+draw.Intn(25), 7, next, tsn)
		p := start(t, 8)
		p.to(next, 7)
		var told []api.Message
		for _, i := range draw.Perm(len(chunks)) {
			p.ok(chunks[i])
			if again := chunks[draw.Intn(len(chunks))]; slices.ContainsFunc(p.words.pieces, func(c api.Chunk) bool { return c.A == again.A }) {
				p.refused(api.ErrState, again)
			}
			if draw.Intn(5) == 0 {
				told = append(told, copiedMessages(p.take())...)
			}
		}
		told = append(told, p.take()...)
		p.holds(0)
		if !sameMessages(inOrder(told), inOrder(messages)) || !sameMessages(without(told), without(messages)) {
			t.Fatalf("of %v there are told %v", messages, told)
		}
	}
}

// P14.5: what comes a second time when its message is whole already changes nothing of what is in order.
func TestTwice(t *testing.T) {
	draw := rand.New(rand.NewSource(146))
	for range 300 {
		next, tsn := shorts[draw.Intn(len(shorts))], numbers[draw.Intn(len(numbers))]
		messages, chunks := drawnMessages(draw, 1+draw.Intn(12), 7, next, tsn)
		twice := slices.Concat(chunks, chunks[:draw.Intn(len(chunks)+1)])
		p := start(t, 8)
		p.to(next, 7)
		var told []api.Message
		for _, i := range draw.Perm(len(twice)) {
			p.add(twice[i])
			told = append(told, copiedMessages(p.take())...)
		}
		if !sameMessages(inOrder(told), inOrder(messages)) {
			t.Fatalf("of %v there are told %v", messages, told)
		}
	}
}

// P14.5: messages of several streams at a time: of each stream those of it, in order.
func TestWhateverOrderOfStreams(t *testing.T) {
	draw := rand.New(rand.NewSource(147))
	for range 100 {
		p := start(t, 5)
		tsn := numbers[draw.Intn(len(numbers))]
		var all [5][]api.Message
		var chunks []api.Chunk
		for stream := range uint16(5) {
			next := shorts[draw.Intn(len(shorts))]
			p.to(next, stream)
			m, l := drawnMessages(draw, draw.Intn(10), stream, next, tsn)
			tsn += uint32(len(l))
			all[stream], chunks = m, append(chunks, l...)
		}
		var told []api.Message
		for _, i := range draw.Perm(len(chunks)) {
			p.ok(chunks[i])
			told = append(told, copiedMessages(p.take())...)
		}
		for stream, want := range all {
			got := slices.DeleteFunc(slices.Clone(told), func(m api.Message) bool { return int(m.Stream) != stream })
			if !sameMessages(inOrder(got), inOrder(want)) || !sameMessages(without(got), without(want)) {
				t.Fatalf("of the stream %d there are told %v, want %v", stream, got, want)
			}
		}
		p.holds(0)
	}
}

// script draws calls near a number, most of them chunks that follow one another.
type script struct {
	*pair
	draw *rand.Rand
	tsn  uint32
	next uint16
	wide int
}

func (s *script) number() uint32 { return s.tsn + uint32(s.draw.Intn(s.wide)) }

func (s *script) ssn() uint16 { return s.next + uint16(s.draw.Intn(6)) - 1 }

// chunk is one that may follow another one often: its flags are those of its place in messages of three, most of the time.
func (s *script) chunk() api.Chunk {
	c := piece(s.number(), uint16(s.draw.Intn(2)), s.ssn(), 0, make([]byte, 1+s.draw.Intn(3))...)
	s.draw.Read(c.Data)
	if s.draw.Intn(3) > 0 {
		c.Out, c.In = 0, s.next+uint16(c.A/3%4)
		c.Flags = []uint8{begin, 0, end}[c.A%3]
	} else {
		c.Flags = uint8(s.draw.Intn(8))
	}
	switch s.draw.Intn(60) {
	case 0:
		c.Ppid++
	case 1:
		c.Flags |= loose
	case 2:
		c.Kind = uint8(s.draw.Intn(256))
	case 3:
		c.Data = nil
	case 4:
		c.Out = uint16(s.draw.Intn(70))
	case 5:
		c.Data = make([]byte, s.draw.Intn(70000))
	case 6:
		c.A += half
	case 7:
		c.In += half16
	case 8:
		c.B, c.Blocks, c.Dups, c.Skips = 5, []api.Block{{From: 2, To: 3}}, []uint32{5}, []api.Skip{{Stream: 1, Ssn: 2}}
	}
	return c
}

func (s *script) skips() []api.Skip {
	var l []api.Skip
	for range s.draw.Intn(4) {
		k := hop(uint16(s.draw.Intn(4)), s.ssn())
		if s.draw.Intn(10) == 0 {
			k.Ssn += half16
		}
		l = append(l, k)
	}
	return l
}

// call makes a call.
func (s *script) call() {
	s.t.Helper()
	switch k := s.draw.Intn(100); {
	case k < 80:
		s.add(s.chunk())
	case k < 84:
		s.forward(s.number()-3, s.skips()...)
	case k < 86:
		s.forward(s.number()+half, s.skips()...)
	case k < 88:
		s.reset(uint16(s.draw.Intn(4)))
		if s.draw.Intn(2) == 0 {
			s.to(s.next, uint16(s.draw.Intn(2)))
		}
	default:
		s.take()
	}
}

// P14.1 to P14.4: scripts of all calls, drawn from a fixed seed, answer what the chapter's words do.
func TestScripts(t *testing.T) {
	draw := rand.New(rand.NewSource(148))
	for i := range 1500 {
		s := &script{start(t, 3), draw, numbers[draw.Intn(len(numbers))], shorts[draw.Intn(len(shorts))], 3 + i%20}
		s.to(s.next, 0, 1)
		for range 200 {
			s.call()
		}
		s.take()
	}
}

// P14.1 to P14.4: likewise of two Joins side by side: they share nothing.
func TestScriptsSideBySide(t *testing.T) {
	draw := rand.New(rand.NewSource(149))
	for range 100 {
		var both [2]*script
		tsn := numbers[draw.Intn(len(numbers))]
		for i := range both {
			both[i] = &script{start(t, 3), draw, tsn, 0, 12}
		}
		for range 300 {
			both[draw.Intn(2)].call()
			both[0].held()
			both[1].held()
		}
		both[0].take()
		both[1].take()
	}
}

// R3: neither a chunk's octets nor those that stand behind them in the same memory are changed or kept.
func TestChunksAreNotKept(t *testing.T) {
	all := bytes.Repeat([]byte{1, 2, 3, 4, 5, 6, 7, 8}, 4)
	before := slices.Clone(all)
	j := join.New(2)
	j.Add(piece(1, 1, 1, begin, all[0:3]...))
	j.Add(piece(2, 1, 1, end, all[3:8]...))
	j.Add(piece(3, 1, 0, begin, all[8:12]...))
	j.Add(piece(5, 1, 2, alone|loose, all[16:20]...))
	if !bytes.Equal(all, before) {
		t.Errorf("the octets that were handed in became %v", all)
	}
	turn(all)
	j.Add(piece(4, 1, 0, end, 9))
	want := []api.Message{freely(1, 1, 2, 3, 4), text(1, 1, 2, 3, 4, 9), text(1, 1, 2, 3, 4, 5, 6, 7, 8)}
	l := j.Take()
	if !sameMessages(l, want) {
		t.Errorf("Take is %v, want %v", l, want)
	}
	turn(all)
	for i := range l {
		turn(l[i].Data)
	}
	if !bytes.Equal(all, before) {
		t.Errorf("what Take told turns what was handed in to %v", all)
	}
}

// R3: what Take told is new memory: turning it, and laying something behind it, changes nothing that is told later, nor another message.
func TestTakeIsNewMemory(t *testing.T) {
	p := start(t, 2)
	p.ok(single(1, 1, 0, 1, 2, 3), single(2, 1, 1, 4, 5), single(3, 1, 3, 6), piece(4, 1, 4, begin, 7))
	first := p.join.Take()
	p.words.take()
	turn(first[0].Data)
	if !bytes.Equal(first[1].Data, []byte{4, 5}) {
		t.Errorf("the second message has turned with the first one: %v", first[1])
	}
	behind := append(first, text(0, 99), text(0, 98), text(0, 97))
	for i := range behind {
		behind[i].Data = append(behind[i].Data, 55, 56, 57, 58, 59)
		turn(behind[i].Data)
	}
	p.ok(single(5, 1, 2, 8), piece(5, 1, 4, end, 9))
	second := p.join.Take()
	p.words.take()
	for i := range behind {
		behind[i] = api.Message{Stream: 77}
	}
	for i := range first {
		first[i] = api.Message{Stream: 78}
	}
	if !sameMessages(second, []api.Message{text(1, 8), text(1, 6), text(1, 7, 9)}) {
		t.Errorf("the second answer is %v", second)
	}
	p.ok(single(1, 1, 5, 10))
	if !sameMessages(second, []api.Message{text(1, 8), text(1, 6), text(1, 7, 9)}) || first[0].Stream != 78 {
		t.Errorf("later the answers are %v, %v", first, second)
	}
	p.takes(text(1, 10))
}

// R3: skips that were handed in are neither changed nor kept.
func TestSkipsAreNotKept(t *testing.T) {
	skips := []api.Skip{hop(1, 4), hop(9, 9), hop(0, 2), hop(1, 1)}
	before := slices.Clone(skips)
	p := start(t, 2)
	p.ok(single(1, 1, 6, 1))
	p.words.forward(0, skips)
	p.join.Forward(0, skips)
	if !slices.Equal(skips, before) {
		t.Errorf("the skips became %v", skips)
	}
	for i := range skips {
		skips[i] = hop(1, 1000)
	}
	p.ok(single(2, 1, 5, 2), single(3, 0, 3, 3))
	p.takes(text(1, 2), text(1, 1), text(0, 3))
}

// checkMany adds all pieces of one message of one octet each, in an order, and asks for the message.
func checkMany(t *testing.T, order []int) {
	t.Helper()
	j := join.New(1)
	want := make([]byte, len(order))
	for held, i := range order {
		var flags uint8
		if i == 0 {
			flags |= begin
		}
		if i == len(order)-1 {
			flags |= end
		}
		want[i] = byte(i % 251)
		if got := j.Add(piece(top-1000+uint32(i), 0, 0, flags, want[i])); got != api.OK || j.Held() != held+1 {
			t.Fatalf("the %dth is %v, Held %d", held, got, j.Held())
		}
	}
	if l := j.Take(); !sameMessages(l, []api.Message{text(0, want...)}) || j.Held() != 0 {
		t.Errorf("there are %d messages, Held %d", len(l), j.Held())
	}
}

// P1: one message of as many pieces as are held at most, in whatever order, in a time that rises no faster than they do.
func TestVeryManyPieces(t *testing.T) {
	forth, back := make([]int, 65536), make([]int, 65536)
	for i := range forth {
		forth[i], back[i] = i, len(back)-1-i
	}
	checkMany(t, forth)
	checkMany(t, back)
	checkMany(t, append(back[1:], 65535))
	checkMany(t, append(forth[1:], 0))
	checkMany(t, rand.New(rand.NewSource(150)).Perm(65536))
}
