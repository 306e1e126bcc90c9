package audio_test

import (
	"testing"

	"bollard/api"
	"bollard/audio"
)

// numbers are some of parties and of rooms, by what they are to become where most are the greatest number.
func numbers(most int) map[int]int {
	l := map[int]int{1: 1, 2: 2, 3: 3, most - 1: most - 1, most: most}
	for _, n := range []int{0, -1, -2, -most, most + 1, most + 2, 2 * most, 255, 256, 257, 1 << 32, 1<<32 + 1, -1 << 32, least, least + 1, greatest} {
		l[n] = most
	}
	return l
}

// P20.2: how many parties may listen.
func TestNewParties(t *testing.T) {
	for parties, want := range numbers(16) {
		forward := audio.New(parties, 4)
		for party := -3; party < 20; party++ {
			fault := api.ErrArg
			if 0 <= party && party < want {
				fault = api.OK
			}
			if err := forward.Listen(party); err != fault {
				t.Errorf("New(%d): Listen(%d) is %v, want %v", parties, party, err, fault)
			}
		}
		for _, party := range outside {
			if err := forward.Listen(party); err != api.ErrArg {
				t.Errorf("New(%d): Listen(%d) is %v", parties, party, err)
			}
		}
	}
}

// P20.2: how many packets wait.
func TestNewRoom(t *testing.T) {
	for room, want := range numbers(64) {
		forward := audio.New(2, room)
		forward.Listen(0)
		forward.Listen(1)
		for i := range 140 {
			forward.Hear(0, audio.Packet{Seq: uint16(i)})
			if got := forward.Waiting(1); got != min(i+1, want) {
				t.Fatalf("New(2, %d): of %d said %d wait, want %d", room, i+1, got, min(i+1, want))
			}
			if got := forward.Lost(1); got != max(0, i+1-want) {
				t.Fatalf("New(2, %d): of %d said %d are lost, want %d", room, i+1, got, max(0, i+1-want))
			}
		}
	}
}

// P20.2: parties and room do not hang on one another.
func TestNewBoth(t *testing.T) {
	for parties := range numbers(16) {
		for room := range numbers(64) {
			p := start(t, parties, room)
			p.listen(0)
			p.listen(p.words.parties - 1)
			p.listen(p.words.parties)
			for i := range uint16(70) {
				p.says(0, 1, i)
			}
		}
	}
}

// P20.2: each party listens and is quiet, and none but it.
func TestListenAndQuietEach(t *testing.T) {
	for parties := 1; parties <= 16; parties++ {
		p := start(t, parties, 2)
		for party := range parties {
			p.want(p.quiet(party), api.ErrClosed)
			p.want(p.listen(party), api.OK)
			p.want(p.listen(party), api.ErrState)
		}
		for party := range parties {
			p.want(p.quiet(party), api.OK)
			p.want(p.quiet(party), api.ErrClosed)
			for other := range parties {
				if _, err := p.hear(other, audio.Packet{}); (err == api.OK) != (other > party) {
					t.Fatalf("behind Quiet(%d) Hear(%d) is %v", party, other, err)
				}
			}
		}
		for party := range parties {
			p.want(p.listen(party), api.OK)
		}
	}
}

// P20.2: parties that are none, whether anybody listens or not.
func TestListenAndQuietNone(t *testing.T) {
	for _, parties := range []int{1, 2, 15, 16} {
		p := start(t, parties, 2)
		for range 2 {
			for _, party := range append([]int{parties, parties + 1}, outside...) {
				p.want(p.listen(party), api.ErrArg)
				p.want(p.quiet(party), api.ErrArg)
			}
			for party := range parties {
				p.listen(party)
			}
		}
	}
}

// P20.2: who listens again behind a Quiet has nothing of before: nothing that waits, nothing lost, no speaker known.
func TestListenAgain(t *testing.T) {
	for _, between := range []bool{false, true} {
		p := listening(t, 3, 2)
		for seq := range uint16(3) {
			p.says(0, 5, 100+seq)
			p.says(2, 6, 200+seq)
		}
		if p.forward.Waiting(1) != 2 || p.forward.Lost(1) != 4 {
			t.Fatalf("ahead of the Quiet %d wait, %d are lost", p.forward.Waiting(1), p.forward.Lost(1))
		}
		p.want(p.quiet(1), api.OK)
		p.pulls(1)
		if between {
			p.says(0, 5, 103)
			p.says(2, 6, 203)
		}
		p.want(p.listen(1), api.OK)
		p.pulls(1)
		// Neither is greater than what was handed to it before.
		p.says(0, 5, 99)
		p.says(2, 6, 200)
		p.pulls(1, 0, 0)
		p.says(0, 5, 101)
		p.says(2, 6, 199)
		p.pulls(1, 2)
	}
}

// P20.2: with a Quiet nothing of the others goes away: what waits for them, what they lost, what they know, of the one that is quiet, too.
func TestQuietIsOnesOwn(t *testing.T) {
	p := listening(t, 4, 2)
	for seq := range uint16(3) {
		p.says(0, 9, 50+seq)
	}
	p.quiet(2)
	p.quiet(0)
	for _, party := range []int{1, 3} {
		if p.forward.Waiting(party) != 2 || p.forward.Lost(party) != 1 {
			t.Errorf("for %d %d wait, %d are lost", party, p.forward.Waiting(party), p.forward.Lost(party))
		}
	}
	p.pulls(1, 0, 1)
	p.listen(0)
	if n := p.says(0, 9, 52); n != 0 {
		t.Errorf("%d took what they had heard", n)
	}
	if n := p.says(0, 9, 60); n != 1 {
		t.Errorf("%d took it, want 1", n)
	}
	p.pulls(1, 10)
	p.pulls(3, 0, 1)
	p.pulls(2)
}
