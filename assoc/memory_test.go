package assoc_test

import (
	"bytes"
	"slices"
	"testing"

	"bollard/api"
	"bollard/assoc"
	"bollard/cookie"
	"bollard/split"
)

// R3: the key is neither changed nor kept: turning it later makes no other cookies.
func TestKeyIsNotKept(t *testing.T) {
	memory := append(key(), 9, 9, 9)
	a := assoc.New(assoc.Config{Port: port, Peer: peer, Key: memory[:16], Streams: 4, Mtu: 128, Life: 5000})
	if !bytes.Equal(memory, append(key(), 9, 9, 9)) {
		t.Errorf("the key became %v", memory)
	}
	turn(memory)
	turned := slices.Clone(memory)
	for range 3 {
		l, _ := a.Hear(packed(t, api.Packet{From: peer, To: port, Chunks: []api.Chunk{invitation()}}), 0, mine)
		if s, err := cookie.Decode(key(), unpacked(t, l)[0].Chunks[0].Params[0].V); err != api.OK || s.Tag != mine {
			t.Errorf("the cookie is %v, %v", s, err)
		}
	}
	if !bytes.Equal(memory, turned) {
		t.Errorf("the key became %v", memory)
	}
}

// R3: the octets that are heard are neither changed nor kept, those behind them in the same memory neither.
func TestOctetsAreNotKept(t *testing.T) {
	s := usual(t, waiting)
	hear := func(tag uint32, l ...api.Chunk) {
		t.Helper()
		b := s.packed(tag, l...)
		memory := append(slices.Clone(b), 7, 7, 7, 7)
		if _, err := s.a.Hear(memory[:len(b)], 0, 5); err != api.OK {
			t.Errorf("Hear is %v", err)
		}
		if !bytes.Equal(memory, append(b, 7, 7, 7, 7)) {
			t.Errorf("what was handed in became %v", memory)
		}
		turn(memory)
	}
	told := func(want ...api.Chunk) {
		t.Helper()
		for n, p := range unpacked(t, s.a.Tell(0)) {
			if !samePackets([]api.Packet{p}, []api.Packet{{From: port, To: peer, Tag: theirs, Chunks: want}}) || n > 0 {
				t.Errorf("there is told %v, want %v", p, want)
			}
		}
	}
	hear(mine, welcome())
	told(api.Chunk{Kind: 10, Data: []byte("brought")})
	s.a.Tick(3000)
	told(api.Chunk{Kind: 10, Data: []byte("brought")})
	hear(mine, api.Chunk{Kind: 11})
	hear(mine, flight(peerFirst+1, 1, text(0, 8)), ask(1000, 0, 2, 3))
	hear(mine, flight(peerFirst, 0, text(0, 9)))
	if l := s.a.Messages(); !sameMessages(l, []api.Message{text(0, 9), text(0, 8)}) {
		t.Errorf("Messages is %v", l)
	}
	if l := s.a.Restarted(); !slices.Equal(l, []uint16{2, 3}) {
		t.Errorf("Restarted is %v", l)
	}
}

// R3: a message's octets, and streams, are neither changed nor kept.
func TestWhatIsSentIsNotKept(t *testing.T) {
	s := usual(t, open)
	memory := append(text(0, 20).Data, 7, 7)
	streams := []uint16{1, 2, 9, 9}
	if err := s.a.Send(api.Message{Ppid: 51, Data: memory[:20]}, always, always, 0); err != api.OK {
		t.Errorf("Send is %v", err)
	}
	if err := s.a.Restart(streams[:2], 0); err != api.OK {
		t.Errorf("Restart is %v", err)
	}
	if !bytes.Equal(memory, append(text(0, 20).Data, 7, 7)) || !slices.Equal(streams, []uint16{1, 2, 9, 9}) {
		t.Errorf("what was handed in became %v, %v", memory, streams)
	}
	turn(memory)
	turnStreams(streams)
	want := []api.Chunk{ask(mine+1, mine, 1, 2), flight(mine, 0, text(0, 20))}
	for _, now := range []int{0, 3000, 10000} {
		s.a.Tick(now)
		if l := unpacked(t, s.a.Tell(now)); !samePackets(l, []api.Packet{s.packet(want...)}) {
			t.Errorf("Tell(%d) is %v, want %v", now, l, want)
		}
	}
	s.a.Hear(s.packed(mine, answer(mine+1, 1)), 10000, 0)
	if l := s.a.Performed(); !slices.Equal(l, []uint16{1, 2}) {
		t.Errorf("Performed is %v", l)
	}
}

// apart asks that octets share no memory: turning each, and what stands behind it, turns no other one.
func apart(t *testing.T, l [][]byte) {
	t.Helper()
	for i := range l {
		var rest [][]byte
		for _, b := range l[i+1:] {
			rest = append(rest, slices.Clone(b))
		}
		turn(append(l[i], 1, 2, 3, 4))
		turn(l[i])
		for n, b := range rest {
			if !bytes.Equal(l[i+1+n], b) {
				t.Errorf("with the %dth packet another one has turned", i)
			}
		}
	}
}

// R3: what Hear and Tell told is new memory: packets share none, and turning them changes nothing that is told later.
func TestPacketsAreNewMemory(t *testing.T) {
	s := usual(t, open)
	s.a.Send(text(0, 3000), always, always, 0)
	s.a.Restart([]uint16{1, 2}, 0)
	first := s.a.Tell(0)
	apart(t, first)
	for i := range first {
		first[i] = nil
	}
	s.a.Tick(3000)
	m := text(0, 3000)
	want := s.packet(ask(mine+1, mine+29, 1, 2), flight(mine, 0, api.Message{Ppid: 51, Data: m.Data[:100]}))
	want.Chunks[1].Flags = split.Begin
	if second := unpacked(t, s.a.Tell(3000)); !samePackets(second, []api.Packet{want}) {
		t.Errorf("told again it is %v, want %v", second, want)
	}
	beat := api.Chunk{Kind: 4, Params: []api.Param{{Kind: 1, V: []byte{1, 2, 3, 4}}}}
	for range 2 {
		l, err := s.a.Hear(s.packed(mine, beat, beat, ask(1000, 0, 1), beat), 0, 0)
		if err != api.OK || len(l) != 4 {
			t.Fatalf("Hear is %v, %v", l, err)
		}
		apart(t, l)
	}
}

// R3: what Messages, Restarted and Performed told is new memory.
func TestListsAreNewMemory(t *testing.T) {
	s := usual(t, open)
	s.a.Restart([]uint16{3, 3, 1}, 0)
	request := ask(1000, 0, 1, 2, 3)
	s.a.Hear(s.packed(mine, answer(mine+1, 1), request, flight(peerFirst, 0, text(0, 5))), 0, 0)
	in, out, messages := s.a.Restarted(), s.a.Performed(), s.a.Messages()
	if !slices.Equal(in, []uint16{1, 2, 3}) || !slices.Equal(out, []uint16{3, 3, 1}) || len(messages) != 1 {
		t.Fatalf("Restarted is %v, Performed %v, Messages %v", in, out, messages)
	}
	turnStreams(append(in, 7, 7))
	turnStreams(in)
	turnStreams(append(out, 7, 7))
	turnStreams(out)
	turn(messages[0].Data)
	s.a.Restart([]uint16{1}, 0)
	s.a.Hear(s.packed(mine, answer(mine+2, 1), ask(1001, 0, 2), flight(peerFirst+1, 1, text(0, 6))), 0, 0)
	if in, out := s.a.Restarted(), s.a.Performed(); !slices.Equal(in, []uint16{2}) || !slices.Equal(out, []uint16{1}) {
		t.Errorf("Restarted is %v, Performed %v", in, out)
	}
	if l := s.a.Messages(); !sameMessages(l, []api.Message{text(0, 6)}) {
		t.Errorf("Messages is %v", l)
	}
}

// R3: two sides share nothing, not even where they were made of one config.
func TestSidesShareNothing(t *testing.T) {
	c := config()
	x, y := assoc.New(c), assoc.New(c)
	x.Start(0, 5)
	x.Tell(0)
	x.Abort()
	if own, other := y.Tags(); y.State() != closed || own != 0 || other != 0 || y.Start(0, 6) != api.OK {
		t.Errorf("the state is %d, the tags %d, %d", y.State(), own, other)
	}
	if l := unpacked(t, y.Tell(0)); len(l) != 1 || l[0].Chunks[0].A != 6 {
		t.Errorf("Tell is %v", l)
	}
}
