package audio_test

import (
	"testing"

	"bollard/api"
	"bollard/audio"
)

// P20.3: Hear of no party, whatever the packet is.
func TestHearOfNoParty(t *testing.T) {
	for _, parties := range []int{1, 3, 16} {
		p := listening(t, parties, 4)
		for _, party := range append([]int{parties, parties + 1}, outside...) {
			_, err := p.hear(party, audio.Packet{Kind: 5, Data: []byte{1}})
			p.want(err, api.ErrArg)
			for _, l := range refused {
				for _, x := range l {
					_, err := p.hear(party, x)
					p.want(err, api.ErrArg)
				}
			}
		}
	}
}

// P20.3: packets that Encode refuses, of one that listens and of one that does not.
func TestHearOfRefused(t *testing.T) {
	p := listening(t, 3, 4)
	p.quiet(2)
	for want, l := range refused {
		for _, x := range l {
			for party := range 3 {
				_, err := p.hear(party, x)
				p.want(err, want)
			}
		}
	}
	_, err := p.hear(2, audio.Packet{Kind: 127, Data: make([]byte, 1188)})
	p.want(err, api.ErrClosed)
	// What was refused was handed to nobody, and is not remembered.
	p.pulls(0)
	p.pulls(1)
	p.says(0, 0, 0)
	p.pulls(1, 0)
}

// P20.3: of one that does not listen: never, not yet, not any more.
func TestHearOfQuiet(t *testing.T) {
	p := start(t, 3, 4)
	p.listen(1)
	closed := func() {
		t.Helper()
		for _, n := range []int{0, 1, 1188} {
			_, err := p.hear(0, audio.Packet{Kind: 9, Seq: 4, Data: make([]byte, n)})
			p.want(err, api.ErrClosed)
		}
	}
	closed()
	p.listen(0)
	p.says(0, 7, 3)
	p.quiet(0)
	closed()
	p.pulls(1, 0)
	p.listen(0)
	p.says(0, 7, 4)
	p.pulls(1, 1)
}

// P20.3: with no other listener, one, and all.
func TestHearByHowMany(t *testing.T) {
	for parties := 1; parties <= 16; parties++ {
		p := start(t, parties, 16)
		p.listen(parties - 1)
		for other := range parties {
			if other > 0 {
				p.listen(other - 1)
			}
			if n := p.says(parties-1, 3, uint16(other)); n != other {
				t.Errorf("with %d others that listen %d took it", other, n)
			}
		}
		p.pulls(parties - 1)
		if parties > 1 {
			p.pulls(parties-2, 0)
		}
	}
}

// P20.3: what is handed on is as it was, but for Seq and Source; each of the others has it, and who says it has not.
func TestHearAsItWas(t *testing.T) {
	for _, x := range edges() {
		forward := audio.New(4, 2)
		for party := range 4 {
			forward.Listen(party)
		}
		if n, err := forward.Hear(2, x); n != 3 || err != api.OK {
			t.Fatalf("Hear of %s is %d, %v", told(x), n, err)
		}
		want := x
		want.Seq, want.Source = 0, 3
		for _, party := range []int{0, 1, 3} {
			if got, there := forward.Pull(party); !samePackets(got, want) || !there {
				t.Fatalf("%d pulls %s, %v, want %s", party, told(got), there, told(want))
			}
		}
		if got, there := forward.Pull(2); there {
			t.Fatalf("who says it pulls %s", told(got))
		}
	}
}

// P20.3: the Source of what is taken is that of the party, 1 to 16, whatever it says.
func TestHearSource(t *testing.T) {
	p := listening(t, 16, 64)
	for party := range 16 {
		for _, source := range []uint32{0, 1, 16, 17, 1<<32 - 1} {
			p.says(party, source, 9)
			for other := range 16 {
				if x, there := p.pull(other); there != (other != party) || there && x.Source != uint32(party+1) {
					t.Fatalf("of %d %d pulls %s, %v", party, other, told(x), there)
				}
			}
		}
	}
}

// P20.3: only those count that took it: each has its own room, and knows speakers of its own.
func TestHearByThoseWithRoom(t *testing.T) {
	p := listening(t, 4, 2)
	for i, want := range []int{3, 3, 2, 2, 1, 0} {
		if n := p.says(0, 1, uint16(i)); n != want {
			t.Errorf("%d took the packet %d, want %d", n, i, want)
		}
		switch i {
		case 1:
			p.pulls(2, 0, 1)
			p.pull(3)
		case 2:
			p.pulls(3, 1, 2)
		}
	}
	p.pulls(1, 0, 1)
	p.pulls(2, 2, 3)
	p.pulls(3, 3, 4)
	for party, want := range []int{0, 4, 2, 1} {
		if got := p.forward.Lost(party); got != want {
			t.Errorf("%d lost %d, want %d", party, got, want)
		}
	}
}

// P20.3: who listens later begins with 0, while the others go on.
func TestHearLate(t *testing.T) {
	p := start(t, 3, 8)
	p.listen(0)
	p.listen(1)
	p.says(0, 1, 40)
	p.says(0, 1, 41)
	p.listen(2)
	p.says(0, 1, 43)
	p.says(0, 1, 44)
	p.pulls(1, 0, 1, 3, 4)
	p.pulls(2, 0, 1)
}
