package sfu_test

import (
	"slices"
	"strings"
	"testing"

	"bollard/api"
	"bollard/assoc"
	"bollard/audio"
	"bollard/dcep"
	"bollard/sfu"
)

// usual is a party that is open, and the server as it is led by hand.
func usual(t *testing.T) (*guest, *hand) {
	t.Helper()
	g := newGuest(t, config())
	return g, receives(t, g)
}

// opened opens a channel of a party; its stream.
func opened(t *testing.T, g *guest, x *hand, o dcep.Opening) uint16 {
	t.Helper()
	stream, err := g.open(o, 0)
	want(t, err, api.OK)
	exchange(t, 0, g, x)
	isSent(t, x, api.Message{Stream: stream, Ppid: 50, Data: encoded(t, o)})
	x.send(stream, 50, []byte{2})
	exchange(t, 0, g, x)
	equal(t, "Ready", g.p.Ready(o.Label), true)
	return stream
}

// isSent asks for what came since.
func isSent(t *testing.T, x *hand, want ...api.Message) {
	t.Helper()
	if !slices.EqualFunc(x.messages, want, sameMessages) {
		t.Fatalf("there came %v, want %v", x.messages, want)
	}
	x.messages = nil
}

// P21.5: Start begins an association from a party's port to the server's; in all other states it is ErrState.
func TestStart(t *testing.T) {
	g := newGuest(t, config())
	equal(t, "State", g.p.State(), assoc.Closed)
	equal(t, "Tell", len(g.give(0)), 0)
	want(t, g.start(5, 77), api.OK)
	equal(t, "State", g.p.State(), assoc.Waiting)
	want(t, g.start(5, 77), api.ErrState)
	l := chunks(t, g.give(5))
	if len(l) != 1 || l[0].Kind != api.Init || l[0].A != 77 || l[0].Out != 8 || l[0].In != 8 {
		t.Fatalf("there is told %v", l)
	}
	g.tick(3004)
	equal(t, "Tell", len(g.give(3004)), 0)
	g.tick(3005)
	equal(t, "Tell", parts(t, g.give(3005)), [][]uint8{{api.Init}})
	x := newHand(t, 5000, 6000, 300)
	g.tick(9005)
	exchange(t, 9005, g, x)
	equal(t, "State", g.p.State(), assoc.Open)
	want(t, g.start(0, 1), api.ErrState)
	want(t, g.close(9005), api.OK)
	want(t, g.start(0, 1), api.ErrState)
	exchange(t, 9005, g, x)
	equal(t, "State", g.p.State(), assoc.Done)
	want(t, g.start(0, 1), api.ErrState)
}

// states brings a party into a state, led by hand.
func states(t *testing.T, state int) (*guest, *hand) {
	t.Helper()
	g := newGuest(t, config())
	x := newHand(t, 5000, 6000, 300)
	if state >= assoc.Waiting {
		want(t, g.start(0, 9), api.OK)
	}
	if state >= assoc.Echoed {
		bring(t, 0, g, x)
		bring(t, 0, x, g)
	}
	if state >= assoc.Open {
		exchange(t, 0, g, x)
		opened(t, g, x, dcep.Opening{Label: "a"})
	}
	switch state {
	case assoc.Closing, assoc.ShutSent:
		want(t, g.close(0), api.OK)
		if state == assoc.ShutSent {
			g.give(0)
		}
	case assoc.ShutHeard, assoc.ShutAcked:
		want(t, x.a.Close(0), api.OK)
		bring(t, 0, x, g)
		if state == assoc.ShutAcked {
			g.give(0)
		}
	case assoc.Done:
		for _, b := range x.a.Abort() {
			want(t, g.take(b, 0), api.OK)
		}
	}
	equal(t, "State", g.p.State(), state)
	return g, x
}

// P21.5: Open, Say, Sound and Close are ErrState in all states but Open, whatever is asked for; Shut is not.
func TestByState(t *testing.T) {
	for state := assoc.Closed; state <= assoc.Done; state++ {
		if state == assoc.Open {
			continue
		}
		g, _ := states(t, state)
		for _, o := range []dcep.Opening{{}, {Label: "a"}, {Label: "b"}, {Kind: 9}, {Label: strings.Repeat("x", 257)}} {
			_, err := g.open(o, 0)
			want(t, err, api.ErrState)
		}
		for _, label := range labels {
			want(t, g.say(label, true, []byte("x"), 0), api.ErrState)
		}
		want(t, g.sound(audio.Packet{}), api.ErrState)
		want(t, g.sound(audio.Packet{Kind: 128}), api.ErrState)
		want(t, g.close(0), api.ErrState)
		equal(t, "Ready", g.p.Ready("a"), state > assoc.Open)
		shut := api.ErrName
		if state > assoc.Open {
			shut = api.OK
		}
		want(t, g.shut("b", 0), api.ErrName)
		want(t, g.shut("a", 0), shut)
		want(t, g.shut("a", 0), api.ErrName)
		equal(t, "Ready", g.p.Ready("a"), false)
		equal(t, "asked", asked(chunksOfPackets(t, g.give(0))), nil)
	}
}

// chunksOfPackets are the chunks of those that are no sound.
func chunksOfPackets(t *testing.T, l [][]byte) []api.Chunk {
	t.Helper()
	return chunks(t, slices.DeleteFunc(l, audio.Is))
}

// P21.5: Open opens a channel on the lowest even stream that is free, and sends its opening, in order and for good, whatever the channel's kind is.
func TestOpen(t *testing.T) {
	g, x := usual(t)
	var sent []api.Message
	for i, o := range []dcep.Opening{{Label: "a"}, {Kind: 129, Priority: 3, Limit: 0, Label: "b", Protocol: "p"}, {Kind: 2}, {Kind: 128, Label: strings.Repeat("é", 128)}} {
		stream, err := g.open(o, 0)
		if stream != uint16(2*i) || err != api.OK {
			t.Fatalf("Open of %v is %d, %v", o, stream, err)
		}
		sent = append(sent, api.Message{Stream: stream, Ppid: 50, Data: encoded(t, o)})
		_, err = g.open(o, 0) // there is one of that label
		want(t, err, api.ErrState)
		equal(t, "Ready", g.p.Ready(o.Label), false)
	}
	_, err := g.open(dcep.Opening{Label: "none"}, 0)
	want(t, err, api.ErrFull)
	for _, c := range of(chunks(t, g.give(0)), api.Data) {
		equal(t, "flags", c.Flags, 3)
	}
	for now := range 8 {
		g.tick((now + 1) * 60000)
		equal(t, "openings", len(of(chunks(t, g.give((now+1)*60000)), api.Data)) > 0, true)
	}
	exchange(t, 480000, g, x)
	g.tick(540000)
	exchange(t, 540000, g, x)
	isSent(t, x, sent...)
}

// P21.5: a label that is there already is ErrState ahead of what dcep.Ask refuses; what that refuses is its error; nothing is sent then.
func TestOpenRefused(t *testing.T) {
	g, x := usual(t)
	opened(t, g, x, dcep.Opening{Label: "a"})
	opened(t, g, x, dcep.Opening{Label: ""})
	long := strings.Repeat("x", 257)
	for _, c := range []struct {
		o   dcep.Opening
		err api.Errno
	}{
		{dcep.Opening{Label: "a"}, api.ErrState}, {dcep.Opening{Label: "a", Kind: 9}, api.ErrState}, {dcep.Opening{Label: "a", Protocol: long}, api.ErrState},
		{dcep.Opening{}, api.ErrState}, {dcep.Opening{Kind: 3}, api.ErrState},
		{dcep.Opening{Label: "b", Kind: 3}, api.ErrArg}, {dcep.Opening{Label: "b", Kind: 127}, api.ErrArg}, {dcep.Opening{Label: "b", Kind: 131}, api.ErrArg}, {dcep.Opening{Label: "\xff"}, api.ErrArg},
		{dcep.Opening{Label: "b", Protocol: "\xff"}, api.ErrArg}, {dcep.Opening{Label: long, Kind: 255}, api.ErrArg},
		{dcep.Opening{Label: long}, api.ErrLarge}, {dcep.Opening{Label: "b", Protocol: long}, api.ErrLarge},
	} {
		_, err := g.open(c.o, 0)
		want(t, err, c.err)
		equal(t, "Tell", len(g.give(0)), 0)
	}
	for _, label := range []string{"b", "chat"} {
		opened(t, g, x, dcep.Opening{Label: label})
	}
	_, err := g.open(dcep.Opening{Label: "none"}, 0)
	want(t, err, api.ErrFull)
	_, err = g.open(dcep.Opening{Label: "none", Kind: 3}, 0)
	want(t, err, api.ErrArg)
	_, err = g.open(dcep.Opening{Label: "chat"}, 0)
	want(t, err, api.ErrState)
}

// P21.5: an opening that can't be sent has assoc.Send's error, and its channel is closed: its stream is not free.
func TestOpenNotSent(t *testing.T) {
	g := newGuest(t, config())
	x := newHand(t, 5000, 6000, 300)
	x.a = assoc.New(assoc.Config{Port: 5000, Peer: 6000, Key: key(), Streams: 3, Mtu: 1200, Life: 60000})
	want(t, g.start(0, 9), api.OK)
	exchange(t, 0, g, x)
	for _, c := range []struct {
		label string
		err   api.Errno
	}{{"a", api.OK}, {"b", api.OK}, {"chat", api.ErrName}, {"chat", api.ErrName}, {"chat", api.ErrFull}, {"none", api.ErrFull}} {
		_, err := g.open(dcep.Opening{Label: c.label}, 0)
		want(t, err, c.err)
	}
	want(t, g.say("chat", true, []byte("x"), 0), api.ErrName)
	want(t, g.shut("chat", 0), api.ErrName)
	l := chunks(t, g.give(0))
	equal(t, "openings", len(of(l, api.Data)), 2)
	equal(t, "Resets", len(of(l, api.Reset)), 0)
}

// P21.5: without room nothing can be opened, nor said.
func TestNoRoom(t *testing.T) {
	g, x := usual(t)
	opened(t, g, x, dcep.Opening{Label: "a"})
	long := []byte(strings.Repeat("x", 16384))
	for range 4 {
		want(t, g.say("a", false, long, 0), api.OK)
	}
	want(t, g.say("a", true, []byte("x"), 0), api.ErrFull)
	want(t, g.say("a", true, nil, 0), api.ErrFull)
	_, err := g.open(dcep.Opening{Label: "b"}, 0)
	want(t, err, api.ErrFull)
	exchange(t, 0, g, x)
	x.messages = nil
	stream, err := g.open(dcep.Opening{Label: "b"}, 0)
	if stream != 4 || err != api.OK { // the stream 2 is closed
		t.Fatalf("Open is %d, %v", stream, err)
	}
	exchange(t, 0, g, x)
	isSent(t, x, api.Message{Stream: 4, Ppid: 50, Data: encoded(t, dcep.Opening{Label: "b"})})
}

// P21.5: Say sends a text or octets on the channel of a label, whether it is Ready or not, empty ones, too.
func TestSay(t *testing.T) {
	for _, ready := range []bool{false, true} {
		g, x := usual(t)
		for i, label := range []string{"a", "b", ""} {
			if ready {
				opened(t, g, x, dcep.Opening{Label: label, Kind: kinds[i], Limit: 9})
			} else {
				g.open(dcep.Opening{Label: label, Kind: kinds[i], Limit: 9}, 0)
			}
		}
		exchange(t, 0, g, x)
		x.messages = nil
		want(t, g.say("b", true, []byte("text"), 0), api.OK)
		want(t, g.say("a", false, []byte{0, 255}, 0), api.OK)
		want(t, g.say("", true, nil, 0), api.OK)
		want(t, g.say("b", false, []byte{}, 0), api.OK)
		want(t, g.say("a", true, []byte{255}, 0), api.OK)
		want(t, g.say("a", false, []byte(strings.Repeat("x", 16384)), 0), api.OK)
		want(t, g.say("a", true, []byte(strings.Repeat("x", 16385)), 0), api.ErrLarge)
		for _, label := range []string{"A", "c", "a ", "chat"} {
			want(t, g.say(label, true, []byte("x"), 0), api.ErrName)
			want(t, g.say(label, true, make([]byte, 70000), 0), api.ErrName)
		}
		exchange(t, 0, g, x)
		isSent(t, x, text(2, "text"), api.Message{Ppid: 53, Data: []byte{0, 255}}, api.Message{Stream: 4, Ppid: 56, Data: []byte{0}},
			api.Message{Stream: 2, Ppid: 57, Data: []byte{0}}, api.Message{Ppid: 51, Data: []byte{255}}, api.Message{Ppid: 53, Data: []byte(strings.Repeat("x", 16384))})
	}
}

// P21.5: what is said is sent by the channel's kind: for good, as many tries, as long a life, in order or not.
func TestSayByKind(t *testing.T) {
	for _, c := range []struct {
		kind  uint8
		limit uint32
		times int
	}{
		{0, 0, 8}, {0, 1, 8}, {128, 0, 8}, {128, 1, 8},
		{1, 0, 1}, {1, 2, 3}, {129, 0, 1}, {129, 3, 4}, {1, 1<<32 - 1, 8},
		{2, 0, 1}, {2, 59999, 1}, {2, 60000, 2}, {2, 119999, 2}, {130, 0, 1}, {130, 60000, 2}, {130, 1<<32 - 1, 8},
	} {
		g, x := usual(t)
		opened(t, g, x, dcep.Opening{Label: "b"})
		opened(t, g, x, dcep.Opening{Kind: c.kind, Limit: c.limit, Label: "a"})
		want(t, g.say("a", true, []byte("x"), 5), api.OK)
		n, now := 0, 5
		for range 8 {
			l := chunks(t, g.give(now))
			for _, d := range of(l, api.Data) {
				n++
				equal(t, "flags", d.Flags, uint8(map[bool]int{true: 7, false: 3}[c.kind >= 128]))
			}
			if len(of(l, api.Forward)) > 0 {
				break
			}
			now += 60000
			g.tick(now)
		}
		if n != c.times {
			t.Errorf("of the kind %d with the limit %d it was told %d times, want %d", c.kind, c.limit, n, c.times)
		}
	}
}

// P21.5: the life of what is said may be as long as a Limit may be, and ends then.
func TestSayForLong(t *testing.T) {
	for _, limit := range longLives {
		for late := range 2 {
			g, x := usual(t)
			opened(t, g, x, dcep.Opening{Kind: 130, Limit: limit, Label: "a"})
			want(t, g.say("a", true, []byte("x"), 5), api.OK)
			equal(t, "Data", len(of(chunks(t, g.give(5)), api.Data)), 1)
			now := 5 + int(limit) + late
			g.tick(now)
			equal(t, "Data", len(of(chunks(t, g.give(now)), api.Data)), 1-late)
		}
	}
}

// P21.4, P21.5: Shut closes the channel of a label and restarts its stream at once; it is free as soon as both sides have restarted it, and no sooner.
func TestShut(t *testing.T) {
	for _, first := range []string{"done", "gone", "together"} {
		g, x := usual(t)
		opened(t, g, x, dcep.Opening{Label: "a"})
		opened(t, g, x, dcep.Opening{Label: "b"})
		want(t, g.shut("chat", 0), api.ErrName)
		want(t, g.shut("a", 0), api.OK)
		want(t, g.shut("a", 0), api.ErrName)
		want(t, g.say("a", true, []byte("x"), 0), api.ErrName)
		equal(t, "Ready", g.p.Ready("a"), false)
		equal(t, "Ready", g.p.Ready("b"), true)
		l := g.give(0)
		equal(t, "asked", asked(chunks(t, l)), [][]uint16{{0}})
		x.says(0, "late")
		x.says(2, "b")
		exchange(t, 0, x, g)
		equal(t, "Heard", g.heard(), []sfu.Said{{Label: "b", Text: true, Data: []byte("b")}})
		if first != "gone" {
			for _, b := range l {
				want(t, x.take(b, 0), api.OK)
			}
			equal(t, "restarted", x.restarted, []uint16{0})
		}
		if first != "done" {
			x.restarts(0)
		}
		exchange(t, 0, x, g)
		if first != "together" {
			stream, err := g.open(dcep.Opening{Label: "a"}, 0)
			if stream != 4 || err != api.OK {
				t.Fatalf("%s: Open is %d, %v", first, stream, err)
			}
		}
		switch first {
		case "done":
			x.restarts(0)
			exchange(t, 0, x, g)
		case "gone":
			for _, b := range l {
				want(t, x.take(b, 0), api.OK)
			}
			exchange(t, 0, x, g)
		}
		equal(t, "performed", x.performed, []uint16{0})
		stream, err := g.open(dcep.Opening{Label: "chat"}, 0)
		if stream != 0 || err != api.OK {
			t.Fatalf("%s: Open is %d, %v", first, stream, err)
		}
		x.messages = nil
		want(t, g.say("chat", true, []byte("x"), 0), api.OK)
		exchange(t, 0, g, x)
		equal(t, "what came", string(x.messages[len(x.messages)-1].Data), "x")
	}
}

// P21.4: as long as a restart is under way another one waits; those that wait are asked for together.
func TestShutsWait(t *testing.T) {
	g, x := usual(t)
	for _, label := range []string{"a", "b", "chat"} {
		opened(t, g, x, dcep.Opening{Label: label})
	}
	for _, label := range []string{"b", "chat", "a"} {
		want(t, g.shut(label, 0), api.OK)
	}
	l := g.give(0)
	equal(t, "asked", asked(chunks(t, l)), [][]uint16{{2}})
	for _, b := range l {
		want(t, x.take(b, 0), api.OK)
	}
	bring(t, 0, x, g)
	equal(t, "asked then", asked(chunks(t, g.give(0))), [][]uint16{{4, 0}})
	g.tick(3000)
	exchange(t, 3000, g, x)
	equal(t, "restarted", x.restarted, []uint16{2, 4, 0})
}

// P21.4: all that was said on a channel comes ahead of its end.
func TestShutBehindWords(t *testing.T) {
	g, x := usual(t)
	opened(t, g, x, dcep.Opening{Label: "a"})
	want(t, g.say("a", true, []byte("last"), 0), api.OK)
	want(t, g.shut("a", 0), api.OK)
	bring(t, 0, g, x)
	equal(t, "restarted", len(x.restarted), 0)
	isSent(t, x, text(0, "last"))
	exchange(t, 0, g, x)
	g.tick(3000)
	exchange(t, 3000, g, x)
	equal(t, "restarted", x.restarted, []uint16{0})
}

// P21.4: the other side restarts a stream: the channel of a party ends, and it restarts the stream, too.
func TestPartyChannelEnds(t *testing.T) {
	g, x := usual(t)
	opened(t, g, x, dcep.Opening{Label: "a"})
	x.restarts(0, 1, 2, 7)
	bring(t, 0, x, g)
	equal(t, "Ready", g.p.Ready("a"), false)
	want(t, g.say("a", true, []byte("x"), 0), api.ErrName)
	want(t, g.shut("a", 0), api.ErrName)
	stream, err := g.open(dcep.Opening{Label: "a"}, 0)
	if stream != 2 || err != api.OK {
		t.Fatalf("Open is %d, %v", stream, err)
	}
	exchange(t, 0, g, x)
	equal(t, "restarted", x.restarted, []uint16{0})
	stream, err = g.open(dcep.Opening{Label: "b"}, 0)
	if stream != 0 || err != api.OK {
		t.Fatalf("Open is %d, %v", stream, err)
	}
	exchange(t, 0, g, x)
	x.restarts(0) // a channel that is Asked ends, too
	exchange(t, 0, x, g)
	x.send(2, 50, []byte{2})
	exchange(t, 0, x, g)
	equal(t, "Ready", g.p.Ready("a"), true)
	equal(t, "restarted", x.restarted, []uint16{0, 0})
}

// P21.4: restarts that were heard in a packet are taken ahead of its messages.
func TestPartyRestartAheadOfMessages(t *testing.T) {
	g, x := usual(t)
	opened(t, g, x, dcep.Opening{Label: "a"})
	x.says(0, "x")
	data := of(chunks(t, x.give(0)), api.Data)
	number := x.number()
	want(t, g.take(x.packed(5000, 6000, append(data, asking(number, data[0].A, 0))...), 0), api.OK)
	equal(t, "Heard", len(g.heard()), 0)
}

// P21.5: Close closes the association: what was said comes still; a party that is Done tells what was answered.
func TestClose(t *testing.T) {
	g, x := usual(t)
	opened(t, g, x, dcep.Opening{Label: "a"})
	want(t, g.say("a", true, []byte("last"), 0), api.OK)
	want(t, g.close(0), api.OK)
	equal(t, "State", g.p.State(), assoc.Closing)
	want(t, g.close(0), api.ErrState)
	bring(t, 0, g, x)
	isSent(t, x, text(0, "last"))
	bring(t, 0, x, g)
	bring(t, 0, g, x)
	equal(t, "State", g.p.State(), assoc.ShutSent)
	bring(t, 0, x, g)
	equal(t, "State", g.p.State(), assoc.Done)
	equal(t, "Tell", parts(t, g.give(0)), [][]uint8{{api.ShutdownDone}})
	equal(t, "Tell then", len(g.give(0)), 0)
	equal(t, "Ready", g.p.Ready("a"), true)
}

// P21.5: sound is refused as audio.Encode refuses it; else it is told by the next Tell, once, behind all else, in order, however much.
func TestSound(t *testing.T) {
	g, x := usual(t)
	opened(t, g, x, dcep.Opening{Label: "a"})
	want(t, g.sound(audio.Packet{Kind: 128}), api.ErrArg)
	want(t, g.sound(audio.Packet{Kind: 255, Data: make([]byte, 1189)}), api.ErrArg)
	want(t, g.sound(audio.Packet{Data: make([]byte, 1189)}), api.ErrLarge)
	equal(t, "Tell", len(g.give(0)), 0)
	sounds := []audio.Packet{{}, {Marker: true, Kind: 127, Seq: 65535, Stamp: 1 << 31, Source: 9, Data: []byte("x")}, {Seq: 3, Data: make([]byte, 1188)}, {}}
	for _, p := range sounds {
		want(t, g.sound(p), api.OK)
	}
	want(t, g.say("a", true, []byte("x"), 0), api.OK)
	want(t, g.take(x.packed(5000, 6000, api.Chunk{Kind: api.Heartbeat}), 0), api.OK)
	l := g.give(0)
	equal(t, "Tell", parts(t, l), [][]uint8{{api.HeartbeatAck}, {api.Data}, {100}, {100}, {100}, {100}})
	for i, p := range sounds {
		if got, err := audio.Decode(l[2+i]); err != api.OK || !samePackets(got, p) {
			t.Errorf("there sounds %v, %v, want %v", got, err, p)
		}
	}
	equal(t, "Tell then", len(g.give(0)), 0)
	for i := range 200 {
		want(t, g.sound(audio.Packet{Seq: uint16(i)}), api.OK)
	}
	equal(t, "Tell of much", len(g.give(0)), 200)
	// What was taken is told by the next Tell, though all has ended since.
	want(t, g.sound(audio.Packet{}), api.OK)
	for _, b := range x.a.Abort() {
		want(t, g.take(b, 0), api.OK)
	}
	equal(t, "Tell at the end", parts(t, g.give(0)), [][]uint8{{100}})
}

// P21.5: sound that is heard is kept for Sounds, as it was, 64 packets at most; what is none has audio.Decode's error; in all states.
func TestHearSound(t *testing.T) {
	for state := assoc.Closed; state <= assoc.Done; state++ {
		g, _ := states(t, state)
		p := audio.Packet{Marker: true, Kind: 127, Seq: 65535, Stamp: 1 << 31, Source: 9, Data: []byte("x")}
		want(t, g.take(sounding(t, p), 0), api.OK)
		want(t, g.take(sounding(t, p), 0), api.OK)
		for err, l := range noSound() {
			for _, b := range l {
				want(t, g.take(b, 0), err)
			}
		}
		if got := g.sounds(); !slices.EqualFunc(got, []audio.Packet{p, p}, samePackets) {
			t.Fatalf("Sounds are %v", got)
		}
		for _, n := range []int{63, 64, 65, 200} {
			for i := range n {
				want(t, g.take(sounding(t, audio.Packet{Seq: uint16(i)}), 0), api.OK)
			}
			got := g.sounds()
			equal(t, "Sounds", len(got), min(n, 64))
			equal(t, "the last one", int(got[len(got)-1].Seq), min(n, 64)-1)
		}
	}
}

// P21.5: octets that are neither sound nor a packet, or a stranger's, change nothing of a party.
func TestPartyStrangers(t *testing.T) {
	for state := assoc.Closed; state <= assoc.Done; state++ {
		g, x := states(t, state)
		g.give(0)
		state := g.p.State() // one that closes has gone on
		for err, l := range noPackets(t) {
			if err == api.ErrCookie || err == api.ErrTag {
				err = api.ErrArg // they come from a party's port
			}
			for _, b := range l {
				if err == api.ErrArg && b[0] == 5000>>8 {
					continue // that one comes from the server's
				}
				want(t, g.take(b, 0), err)
				equal(t, "State", g.p.State(), state)
			}
		}
		strange := []api.Chunk{{Kind: api.Data, Flags: 3, Data: []byte("x")}, {Kind: api.Abort, Flags: 1}, {Kind: api.Abort}, {Kind: api.InitAck, A: 1, In: 1, Out: 1}, {Kind: api.ShutdownDone, Flags: 1}}
		for _, c := range strange {
			want(t, g.take(packedUnder(t, 4321, 5000, 6000, c), 0), api.ErrTag)
			equal(t, "State", g.p.State(), state)
		}
		equal(t, "Tell", len(g.give(0)), 0)
		if state == assoc.Open {
			want(t, g.say("a", true, []byte("x"), 0), api.OK)
			exchange(t, 0, g, x)
			isSent(t, x, text(0, "x"))
		}
	}
}

// P21.5: Heard is what came, in order, with the labels of its channels, as text or octets; each once.
func TestHeard(t *testing.T) {
	g, x := usual(t)
	for i, label := range []string{"a", "b", ""} {
		opened(t, g, x, dcep.Opening{Label: label, Kind: kinds[3*(i%2)]})
	}
	equal(t, "Heard", len(g.heard()), 0)
	for _, m := range []api.Message{
		text(2, "1"), {Stream: 0, Ppid: 53, Data: []byte{2}}, {Stream: 4, Ppid: 51, Data: []byte("3")}, {Stream: 0, Ppid: 56, Data: []byte{0}}, {Stream: 2, Ppid: 57, Data: []byte{0}},
		{Stream: 6, Ppid: 51, Data: []byte("free")}, {Stream: 0, Ppid: 52, Data: []byte("none")}, {Stream: 0, Ppid: 50, Data: []byte("wrong")}, {Stream: 2, Ppid: 50, Data: []byte{2}}, text(0, "4"),
	} {
		x.send(m.Stream, m.Ppid, m.Data)
	}
	exchange(t, 0, x, g)
	equal(t, "Heard", g.heard(), []sfu.Said{
		{Label: "b", Text: true, Data: []byte("1")}, {Label: "a", Data: []byte{2}}, {Label: "", Text: true, Data: []byte("3")},
		{Label: "a", Text: true}, {Label: "b"}, {Label: "a", Text: true, Data: []byte("4")},
	})
	for i := range 300 {
		x.says(0, string(rune('a'+i%26)))
		exchange(t, 0, x, g)
	}
	equal(t, "Heard of much", len(g.heard()), 300)
}

// P21.5: what comes ahead of the answer to an opening is heard, too.
func TestHeardAheadOfTheAnswer(t *testing.T) {
	g, x := usual(t)
	stream, err := g.open(dcep.Opening{Label: "a"}, 0)
	want(t, err, api.OK)
	exchange(t, 0, g, x)
	x.says(stream, "early")
	exchange(t, 0, x, g)
	equal(t, "Ready", g.p.Ready("a"), false)
	equal(t, "Heard", g.heard(), []sfu.Said{{Label: "a", Text: true, Data: []byte("early")}})
}

// P21.5: what the other side opens is answered, and heard of; Ready asks for any channel of a label that is Open, though a lower one is Asked.
func TestOtherSideOpens(t *testing.T) {
	g, x := usual(t)
	g.open(dcep.Opening{Label: "a"}, 0)
	exchange(t, 0, g, x)
	x.messages = nil
	equal(t, "Ready", g.p.Ready("a"), false)
	x.opens(3, dcep.Opening{Label: "a"})
	x.opens(5, dcep.Opening{Label: "b"})
	x.opens(2, dcep.Opening{Label: "chat"}) // that is none of its streams
	x.says(5, "x")
	exchange(t, 0, x, g)
	isAnswered(t, x, 3, 5)
	equal(t, "Ready", g.p.Ready("a"), true)
	equal(t, "Ready", g.p.Ready("b"), true)
	equal(t, "Ready", g.p.Ready("chat"), false)
	equal(t, "Heard", g.heard(), []sfu.Said{{Label: "b", Text: true, Data: []byte("x")}})
	want(t, g.say("b", true, []byte("y"), 0), api.OK)
	want(t, g.say("a", true, []byte("z"), 0), api.OK)
	want(t, g.shut("b", 0), api.OK)
	exchange(t, 0, g, x)
	isSent(t, x, text(5, "y"), text(0, "z"))
}

// P21.5: the answer to an opening waits for room, and is ahead of what is said then.
func TestPartyAnswerWaits(t *testing.T) {
	g, x := usual(t)
	opened(t, g, x, dcep.Opening{Label: "a"})
	for range 4 {
		want(t, g.say("a", false, make([]byte, 16384), 0), api.OK)
	}
	x.opens(1, dcep.Opening{Label: "b"})
	for _, b := range x.give(0) {
		want(t, g.take(b, 0), api.OK)
	}
	want(t, g.say("a", true, []byte("x"), 0), api.ErrFull)
	l := g.give(0)
	l = append(l, g.give(0)...)
	want(t, g.say("a", true, []byte("x"), 0), api.OK)
	for _, b := range l {
		want(t, x.take(b, 0), api.OK)
	}
	exchange(t, 0, g, x)
	isSent(t, x, slices.Concat(slices.Repeat([]api.Message{{Ppid: 53, Data: make([]byte, 16384)}}, 4), []api.Message{{Stream: 1, Ppid: 50, Data: []byte{2}}, text(0, "x")})...)
}

// P21.5: the last stream of all is a channel like others.
func TestLastStream(t *testing.T) {
	c := config()
	c.Streams = 64
	g := newGuest(t, c)
	x := receives(t, g)
	for _, stream := range []uint16{63, 1} {
		x.opens(stream, dcep.Opening{Label: map[uint16]string{63: "a", 1: "b"}[stream]})
	}
	exchange(t, 0, x, g)
	isAnswered(t, x, 63, 1)
	equal(t, "Ready", g.p.Ready("a") && g.p.Ready("b"), true)
}

// P21.5: what a party answers is told by the next Tell, 64 packets at most.
func TestPartyAnswersAtMost(t *testing.T) {
	g, x := usual(t)
	for i := range 70 {
		want(t, g.take(x.packed(5000, 6000, api.Chunk{Kind: api.Heartbeat, Params: []api.Param{{Kind: 1, V: []byte{byte(i)}}}}), 0), api.OK)
	}
	l := chunks(t, g.give(0))
	equal(t, "packets", len(l), 64)
	equal(t, "the last one", l[63].Params[0].V[0], 63)
	equal(t, "packets then", len(g.give(0)), 0)
}

// P21.5: a party whose association is made anew has a new table; what it heard and what it says by sound stays.
func TestPartyMadeAnew(t *testing.T) {
	g, x := usual(t)
	opened(t, g, x, dcep.Opening{Label: "a"})
	opened(t, g, x, dcep.Opening{Label: "b"})
	x.says(0, "heard")
	exchange(t, 0, x, g)
	want(t, g.take(sounding(t, audio.Packet{Seq: 4}), 0), api.OK)
	want(t, g.sound(audio.Packet{Seq: 5}), api.OK)
	want(t, g.shut("a", 0), api.OK)
	want(t, g.shut("b", 0), api.OK) // that one waits
	y := newHand(t, 5000, 6000, 800)
	want(t, y.a.Start(0, 801), api.OK)
	bring(t, 0, y, g)
	for _, b := range g.give(0) {
		y.take(b, 0)
	}
	equal(t, "sounds", len(y.sounds), 1)
	want(t, g.sound(audio.Packet{Seq: 6}), api.OK)
	bring(t, 0, y, g)
	equal(t, "Tell", parts(t, g.give(0)), [][]uint8{{api.CookieAck}, {100}})
	want(t, g.say("a", true, []byte("x"), 0), api.ErrName)
	equal(t, "Heard", g.heard(), []sfu.Said{{Label: "a", Text: true, Data: []byte("heard")}})
	equal(t, "Sounds", len(g.sounds()), 1)
	mine, _ := y.a.Tags()
	want(t, y.take(packedUnder(t, mine, 6000, 5000, api.Chunk{Kind: api.CookieAck}), 0), api.OK)
	equal(t, "State", y.a.State(), assoc.Open)
	stream, err := g.open(dcep.Opening{Label: "a"}, 0)
	if stream != 0 || err != api.OK {
		t.Fatalf("Open is %d, %v", stream, err)
	}
	exchange(t, 0, g, y)
	equal(t, "restarted", len(y.restarted), 0)
	isSent(t, y, api.Message{Stream: 0, Ppid: 50, Data: encoded(t, dcep.Opening{Label: "a"})})
}

// P21.5: time goes by for a party: what is lost is told once more, and one that nothing comes to any more is Done.
func TestPartyTick(t *testing.T) {
	g, x := usual(t)
	opened(t, g, x, dcep.Opening{Label: "a"})
	want(t, g.say("a", true, []byte("x"), 0), api.OK)
	now := 0
	for range 11 {
		equal(t, "State", g.p.State(), assoc.Open)
		equal(t, "Tell", parts(t, g.give(now)), [][]uint8{{api.Data}})
		now += 60000
		g.tick(now)
	}
	equal(t, "State", g.p.State(), assoc.Done)
	equal(t, "Tell", len(g.give(now)), 0)
}

// P21.5, P1: of a nil Party, and of one that nobody made.
func TestNilParty(t *testing.T) {
	var none *sfu.Party
	for _, p := range []*sfu.Party{none, {}} {
		of := api.ErrState
		name := api.ErrName
		if p == nil {
			of, name = api.ErrArg, api.ErrArg
		}
		for _, now := range []int{least, -1, 0, greatest} {
			want(t, p.Start(now, 1), api.ErrArg)
			stream, err := p.Open(dcep.Opening{Label: "a"}, now)
			equal(t, "Open", stream, 0)
			want(t, err, of)
			want(t, p.Say("a", true, []byte("x"), now), of)
			want(t, p.Shut("a", now), name)
			want(t, p.Close(now), api.ErrArg)
			want(t, p.Sound(audio.Packet{}), of)
			want(t, p.Sound(audio.Packet{Kind: 128}), of)
			want(t, p.Hear([]byte{0}, now, 1), api.ErrArg)
			want(t, p.Hear(nil, now, 1), api.ErrArg)
			p.Tick(now)
			if p == nil {
				want(t, p.Hear(make128(12), now, 1), api.ErrArg)
				want(t, p.Hear(make128(1), now, 1), api.ErrArg)
			}
			if p.State() != assoc.Done || len(p.Tell(now)) != 0 || len(p.Heard()) != 0 || len(p.Sounds()) != 0 || p.Ready("a") || p.Ready("") {
				t.Errorf("a Party that is none has something")
			}
		}
	}
}
