package audio_test

import (
	"testing"

	"bollard/api"
	"bollard/audio"
)

// P20.4: what waits longest, over several speakers, to the end and beyond.
func TestPullInOrder(t *testing.T) {
	p := listening(t, 4, 8)
	for i, party := range []int{2, 0, 0, 3, 2} {
		p.says(party, 1, uint16(10+i))
	}
	for _, want := range []uint32{3, 1} {
		if x, there := p.pull(1); x.Source != want || !there {
			t.Errorf("Pull is %s, %v", told(x), there)
		}
	}
	p.says(0, 1, 20)
	p.pulls(1, 1, 0, 4, 9)
	p.says(3, 1, 14)
	p.says(0, 1, 21)
	p.pulls(1, 1, 10)
	for range 3 {
		if x, there := p.pull(1); there || !samePackets(x, audio.Packet{}) {
			t.Errorf("beyond the end Pull is %s, %v", told(x), there)
		}
	}
}

// P20.4: what one party pulls waits for the others still.
func TestPullIsOnesOwn(t *testing.T) {
	p := listening(t, 3, 4)
	p.says(0, 1, 5)
	p.says(0, 1, 6)
	p.pulls(1, 0, 1)
	p.pulls(2, 0, 1)
	p.pulls(0)
}

// P20.4: what is pulled makes room.
func TestPullMakesRoom(t *testing.T) {
	for room := 1; room <= 64; room++ {
		p := listening(t, 2, room)
		for i := range uint16(140) {
			if p.forward.Waiting(1) == room {
				p.pull(1)
			}
			if p.says(0, 1, i) != 1 {
				t.Fatalf("room %d: the packet %d was not taken", room, i)
			}
		}
		if n := p.forward.Lost(1); n != 0 {
			t.Errorf("room %d: %d are lost", room, n)
		}
	}
}

// nothing asks that a Forwarder tells nothing of a party.
func nothing(t *testing.T, forward *audio.Forwarder, party int) {
	t.Helper()
	if x, there := forward.Pull(party); !samePackets(x, audio.Packet{}) || there {
		t.Errorf("Pull(%d) is %s, %v", party, told(x), there)
	}
	if lost, waiting := forward.Lost(party), forward.Waiting(party); lost != 0 || waiting != 0 {
		t.Errorf("of %d: %d lost, %d wait", party, lost, waiting)
	}
}

// P20.4: of no party, of one that does not listen, of one that does not any more, of one that listens again.
func TestToldOfNobody(t *testing.T) {
	p := start(t, 5, 1)
	for party := range 4 {
		p.listen(party)
	}
	p.says(3, 1, 1)
	p.says(3, 1, 2)
	p.says(0, 1, 1)
	for _, party := range append([]int{4, 5, 6}, outside...) {
		nothing(t, p.forward, party)
	}
	p.quiet(1)
	nothing(t, p.forward, 1)
	p.listen(1)
	nothing(t, p.forward, 1)
	p.quiet(3)
	nothing(t, p.forward, 3)
	for party, want := range map[int]int{0: 1, 2: 2} {
		if p.forward.Lost(party) != want || p.forward.Waiting(party) != 1 {
			t.Errorf("of %d: %d lost, %d wait", party, p.forward.Lost(party), p.forward.Waiting(party))
		}
	}
}

// P20.4: Lost and Waiting of each party, by what was said to it.
func TestLostAndWaiting(t *testing.T) {
	p := listening(t, 3, 2)
	for i, x := range []struct{ party, waits, lost int }{{0, 1, 0}, {2, 2, 0}, {2, 2, 1}, {1, 2, 1}, {0, 2, 2}, {0, 2, 3}} {
		p.says(x.party, 1, uint16(i))
		if p.forward.Waiting(1) != x.waits || p.forward.Lost(1) != x.lost {
			t.Errorf("behind the packet %d %d wait, %d are lost", i, p.forward.Waiting(1), p.forward.Lost(1))
		}
	}
	p.pulls(1, 0, 0)
	if n := p.forward.Lost(1); n != 3 {
		t.Errorf("once all is pulled %d are lost", n)
	}
	p.quiet(1)
	p.listen(1)
	p.says(0, 1, 9)
	if p.forward.Waiting(1) != 1 || p.forward.Lost(1) != 0 {
		t.Errorf("anew %d wait, %d are lost", p.forward.Waiting(1), p.forward.Lost(1))
	}
}

// P20.4: asking changes nothing, however often.
func TestAskingChangesNothing(t *testing.T) {
	p := listening(t, 3, 2)
	for i := range uint16(3) {
		p.says(0, 1, i)
	}
	for range 100 {
		for party := -1; party < 4; party++ {
			p.forward.Waiting(party)
			p.forward.Lost(party)
		}
		p.forward.Pull(0)
	}
	p.same()
	p.pulls(1, 0, 1)
}

// P1: all calls of a nil Forwarder.
func TestNil(t *testing.T) {
	noParties(t, nil)
}

// P1: a Forwarder that nobody made by New has no parties, and none of its calls panics.
func TestZeroValue(t *testing.T) {
	noParties(t, new(audio.Forwarder))
}

// noParties asks all calls of a Forwarder that has none.
func noParties(t *testing.T, forward *audio.Forwarder) {
	t.Helper()
	none := func(call string, err api.Errno) {
		t.Helper()
		if err != api.ErrArg {
			t.Errorf("%s is %v", call, err)
		}
	}
	for _, party := range append([]int{0, 1, 15}, outside...) {
		none("Listen", forward.Listen(party))
		none("Quiet", forward.Quiet(party))
		for _, x := range append([]audio.Packet{{}, {Kind: 5, Data: []byte{1}}}, append(refused[api.ErrArg], refused[api.ErrLarge]...)...) {
			n, err := forward.Hear(party, x)
			none("Hear", err)
			if n != 0 {
				t.Errorf("%d took it", n)
			}
		}
		nothing(t, forward, party)
	}
}
