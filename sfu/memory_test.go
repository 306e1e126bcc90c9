package sfu_test

import (
	"bytes"
	"slices"
	"strings"
	"testing"

	"bollard/api"
	"bollard/assoc"
	"bollard/audio"
	"bollard/dcep"
	"bollard/sfu"
)

// pass lets a server and hands speak until nothing more is told, and turns what was told and what was handed in behind each call.
func pass(t *testing.T, s *sfu.Server, l []*hand) {
	t.Helper()
	for range 100 {
		count := 0
		for party, x := range l {
			for _, b := range x.give(0) {
				s.Hear(party, b, 0, x.next())
				turn(b)
				count++
			}
			for _, b := range told(s.Tell(party, 0)) {
				x.take(b, 0)
				count++
			}
		}
		if count == 0 {
			return
		}
	}
	t.Fatal("there is no end of it")
}

// inside are hands that are open at a server, each with a channel of the label a.
func inside(t *testing.T, s *sfu.Server, n int) []*hand {
	t.Helper()
	var l []*hand
	for party := range n {
		l = append(l, newHand(t, 6000, 5000, draws(100*party+100)))
		want(t, l[party].a.Start(0, l[party].next()), api.OK)
	}
	pass(t, s, l)
	for _, x := range l {
		x.opens(0, dcep.Opening{Label: "a"})
	}
	pass(t, s, l)
	for party, x := range l {
		equal(t, "State", s.State(party), assoc.Open)
		x.has()
	}
	return l
}

// R3: the key is neither changed nor kept: turning it later changes nothing, not even for a place that is set up anew.
func TestKeyIsNotKept(t *testing.T) {
	memory := append(key(), 9, 9, 9)
	c := config()
	c.Key = memory[:16]
	s, p := sfu.NewServer(c), sfu.NewParty(c)
	if !bytes.Equal(memory, append(key(), 9, 9, 9)) {
		t.Errorf("the key became %v", memory)
	}
	turn(memory)
	turned := slices.Clone(memory)
	old := sfu.NewServer(config())
	for range 3 {
		x := newHand(t, 6000, 5000, 100)
		want(t, x.a.Start(0, 101), api.OK)
		for _, b := range x.give(0) {
			want(t, old.Hear(0, b, 0, 7), api.OK)
		}
		for _, b := range old.Tell(0, 0) {
			want(t, x.take(b, 0), api.OK)
		}
		for _, b := range x.give(0) {
			want(t, s.Hear(0, b, 0, 8), api.OK) // its cookie was made under the key as it was
		}
		equal(t, "State", s.State(0), assoc.Open)
		for _, b := range s.Tell(0, 0) {
			want(t, x.take(b, 0), api.OK)
		}
		for _, b := range x.a.Abort() {
			want(t, s.Hear(0, b, 0, 9), api.OK)
		}
		equal(t, "State", s.State(0), assoc.Closed)
	}
	y := newHand(t, 5000, 6000, 200) // a party's key matters where the other side begins
	want(t, y.a.Start(0, 201), api.OK)
	for range 2 {
		for _, b := range y.give(0) {
			want(t, p.Hear(b, 0, 202), api.OK)
		}
		for _, b := range p.Tell(0) {
			want(t, y.take(b, 0), api.OK)
		}
	}
	equal(t, "State", p.State(), assoc.Open)
	if !bytes.Equal(memory, turned) {
		t.Errorf("the key became %v", memory)
	}
}

// R3: turning what was told to one party changes nothing of what is told to another one, nor what was handed in later.
func TestNobodyHearsWhatWasTurned(t *testing.T) {
	s := sfu.NewServer(config())
	l := inside(t, s, 3)
	l[0].says(0, "to all")
	for _, b := range l[0].give(0) {
		want(t, s.Hear(0, b, 0, 1), api.OK)
		turn(b)
	}
	b := sounding(t, audio.Packet{Seq: 4, Stamp: 6, Data: []byte("sound")})
	want(t, s.Hear(0, b, 0, 1), api.OK)
	turn(b)
	pass(t, s, l)
	for _, x := range l[1:] {
		x.has(text(0, "to all"))
		if len(x.sounds) != 1 || !samePackets(x.sounds[0], audio.Packet{Stamp: 6, Source: 1, Data: []byte("sound")}) {
			t.Errorf("there sounds %v", x.sounds)
		}
	}
}

// R3: what is told once more, as it was lost, is what it was, though what was told was turned.
func TestToldOnceMore(t *testing.T) {
	s := sfu.NewServer(config())
	l := inside(t, s, 2)
	l[0].says(0, "lost")
	for _, b := range l[0].give(0) {
		want(t, s.Hear(0, b, 0, 1), api.OK)
	}
	told(s.Tell(1, 0))
	s.Tick(3000)
	for _, b := range told(s.Tell(1, 3000)) {
		want(t, l[1].take(b, 3000), api.OK)
	}
	l[1].has(text(0, "lost"))
}

// R3: answers that wait to be told are the server's own: what was heard may be turned since.
func TestAnswersAreKept(t *testing.T) {
	s := sfu.NewServer(config())
	l := inside(t, s, 1)
	memory := append(l[0].packed(6000, 5000, api.Chunk{Kind: api.Heartbeat, Params: []api.Param{{Kind: 1, V: []byte("beat")}}}), 1, 2, 3)
	whole := slices.Clone(memory)
	want(t, s.Hear(0, memory[:len(memory)-3], 0, 1), api.OK)
	if !bytes.Equal(memory, whole) {
		t.Errorf("what was handed in became %v", memory)
	}
	turn(memory)
	equal(t, "the answer", string(chunks(t, s.Tell(0, 0))[0].Params[0].V), "beat")
}

// R3: what a party says, and how it sounds, is neither changed nor kept; what it hears is its own.
func TestPartyKeepsItsOwn(t *testing.T) {
	g, x := usual(t)
	p := g.p
	stream, err := p.Open(dcep.Opening{Label: "chat"}, 0)
	want(t, err, api.OK)
	data := append([]byte("said"), 7, 7)
	want(t, p.Say("chat", true, data[:4], 0), api.OK)
	a := audio.Packet{Data: append([]byte("sound"), 7)[:5]}
	want(t, p.Sound(a), api.OK)
	if !bytes.Equal(data, []byte("said\a\a")) || !bytes.Equal(a.Data[:6], []byte("sound\a")) {
		t.Errorf("what was handed in became %v, %v", data, a.Data[:6])
	}
	turn(data)
	turn(a.Data)
	for _, b := range told(p.Tell(0)) {
		want(t, x.take(b, 0), api.OK)
	}
	isSent(t, x, api.Message{Stream: stream, Ppid: 50, Data: encoded(t, dcep.Opening{Label: "chat"})}, text(stream, "said"))
	equal(t, "the sound", string(x.sounds[0].Data), "sound")

	x.send(stream, 50, []byte{2})
	x.says(stream, strings.Repeat("heard", 3))
	for _, b := range append(x.give(0), sounding(t, audio.Packet{Data: []byte("sound")})) {
		memory := append(slices.Clone(b), 7, 7)
		want(t, p.Hear(memory[:len(b)], 0, 1), api.OK)
		if !bytes.Equal(memory, append(b, 7, 7)) {
			t.Errorf("what was handed in became %v", memory)
		}
		turn(memory)
	}
	equal(t, "Heard", p.Heard(), []sfu.Said{{Label: "chat", Text: true, Data: []byte("heardheardheard")}})
	if l := p.Sounds(); len(l) != 1 || string(l[0].Data) != "sound" {
		t.Errorf("Sounds are %v", l)
	}
}
