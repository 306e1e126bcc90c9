package audio_test

import (
	"fmt"
	"slices"
	"testing"

	"bollard/audio"
)

// spoken is what a party says, and the new number of it; -1, where it is not taken.
type spoken struct {
	party  int
	source uint32
	seq    uint16
	want   int
}

// asks says all, one behind the other, and asks that the party 3 pulls just what is taken.
func asks(t *testing.T, p *pair, l ...spoken) {
	t.Helper()
	var want []uint16
	for _, x := range l {
		taken := 0
		if x.want >= 0 {
			taken = 1
			want = append(want, uint16(x.want))
		}
		if n := p.says(x.party, x.source, x.seq); n != taken {
			t.Errorf("of %v: %d took %v, want %d", l, n, x, taken)
		}
	}
	p.pulls(3, want...)
}

// heard is a pair of which only the party 3 listens to the others: these lost all that they hear of each other, as their room is used up by the party 4, who is quiet then.
func heard(t *testing.T, room int) *pair {
	t.Helper()
	p := start(t, 5, room)
	for _, party := range []int{0, 1, 2, 4} {
		p.listen(party)
	}
	for i := range uint16(64) {
		p.says(4, 1, i)
	}
	p.quiet(4)
	p.listen(3)
	return p
}

// P20.3: of a speaker of whom nothing is known the packet has the number 0, whatever its own is.
func TestHandedFirst(t *testing.T) {
	for _, seq := range []uint16{0, 1, 2, 32767, 32768, 32769, 65534, 65535} {
		for _, source := range []uint32{0, 1, 7, 1<<32 - 1} {
			asks(t, heard(t, 8), spoken{0, source, seq, 0})
			asks(t, heard(t, 8), spoken{2, source, seq, 0}, spoken{1, source, seq, 0}, spoken{0, source, seq, 0})
		}
	}
}

// P20.3: the same Source with another number: greater by 1, by more, by half of the circle and around it, equal, smaller, going round.
func TestHandedSameSource(t *testing.T) {
	for _, first := range []uint16{0, 1, 700, 32767, 32768, 65534, 65535} {
		for _, x := range []struct{ step, want int }{
			{1, 1}, {2, 2}, {3, 3}, {255, 255}, {256, 256}, {32766, 32766}, {32767, 32767},
			{0, -1}, {32768, -1}, {32769, -1}, {65535, -1}, {65534, -1}, {65280, -1}, {40000, -1},
		} {
			second := first + uint16(x.step)
			asks(t, heard(t, 8), spoken{0, 5, first, 0}, spoken{0, 5, second, x.want})
			// What comes then is counted from the one that was handed on last.
			third, want := second+2, x.want+2
			if x.want < 0 {
				third, want = first+2, 2
			}
			asks(t, heard(t, 8), spoken{0, 5, first, 0}, spoken{0, 5, second, x.want}, spoken{0, 5, third, want}, spoken{0, 5, third, -1})
		}
	}
}

// P20.3: all numbers behind one: those of the half above it are taken.
func TestHandedAllNumbers(t *testing.T) {
	for _, first := range []uint16{0, 5, 32768, 65535} {
		forward := audio.New(2, 2)
		forward.Listen(0)
		for step := range 65536 {
			forward.Listen(1)
			forward.Hear(0, audio.Packet{Seq: first, Source: 5})
			forward.Hear(0, audio.Packet{Seq: first + uint16(step), Source: 5})
			want := 1
			if 0 < step && step < 32768 {
				want = 2
			}
			if got := forward.Waiting(1); got != want {
				t.Fatalf("behind %d %d more: %d are taken", first, step, got)
			}
			forward.Pull(1)
			if x, there := forward.Pull(1); there && int(x.Seq) != step {
				t.Fatalf("behind %d %d more is told as %d", first, step, x.Seq)
			}
			forward.Quiet(1)
		}
	}
}

// P20.3: what is not taken, as it is not greater, is not remembered, and not lost.
func TestHandedBackwards(t *testing.T) {
	p := heard(t, 8)
	asks(t, p, spoken{0, 5, 10, 0}, spoken{0, 5, 12, 2}, spoken{0, 5, 11, -1}, spoken{0, 5, 12, -1}, spoken{0, 5, 10, -1}, spoken{0, 5, 13, 3}, spoken{0, 5, 13, -1})
	asks(t, p, spoken{0, 5, 9, -1}, spoken{0, 5, 20, 10})
	if n := p.forward.Lost(3); n != 0 {
		t.Errorf("%d are lost", n)
	}
}

// P20.3: numbers that go round, own ones and new ones.
func TestHandedRound(t *testing.T) {
	asks(t, heard(t, 8), spoken{0, 5, 65533, 0}, spoken{0, 5, 65535, 2}, spoken{0, 5, 0, 3}, spoken{0, 5, 65535, -1}, spoken{0, 5, 4, 7})
	// The new ones go round at 65536, too: by two steps of nearly half of the circle each.
	asks(t, heard(t, 8), spoken{0, 5, 100, 0}, spoken{0, 5, 100 + 32767, 32767}, spoken{0, 5, 98, 65534}, spoken{0, 5, 99, 65535}, spoken{0, 5, 100, 0}, spoken{0, 5, 102, 2})
	// By another Source they go round, too.
	asks(t, heard(t, 8), spoken{0, 5, 0, 0}, spoken{0, 5, 32767, 32767}, spoken{0, 5, 65534, 65534}, spoken{0, 5, 65535, 65535}, spoken{0, 6, 65535, 0}, spoken{0, 6, 65534, -1}, spoken{0, 6, 1, 2})
}

// P20.3: another Source of the same party: one more, whatever its own number is; what comes then is counted from it.
func TestHandedOtherSource(t *testing.T) {
	for _, seq := range []uint16{0, 1, 9, 10, 11, 12, 32768, 40000, 65535} {
		for _, source := range []uint32{0, 4, 6, 1<<16 + 5, 1<<32 - 1} {
			asks(t, heard(t, 8), spoken{0, 5, 10, 0}, spoken{0, source, seq, 1})
			asks(t, heard(t, 8), spoken{0, 5, 10, 0}, spoken{0, 5, 14, 4}, spoken{0, source, seq, 5}, spoken{0, source, seq, -1}, spoken{0, source, seq + 3, 8})
		}
	}
}

// P20.3: one who speaks with two Sources in turn: nothing is known of the one before the last.
func TestHandedSourcesInTurn(t *testing.T) {
	asks(t, heard(t, 16), spoken{0, 5, 10, 0}, spoken{0, 6, 20, 1}, spoken{0, 5, 10, 2}, spoken{0, 6, 20, 3}, spoken{0, 5, 7, 4}, spoken{0, 5, 6, -1}, spoken{0, 6, 20, 5}, spoken{0, 6, 22, 7}, spoken{0, 5, 100, 8}, spoken{0, 5, 99, -1}, spoken{0, 5, 103, 11})
}

// P20.3: speakers in turn, with the same Source or with another one, know nothing of each other.
func TestHandedSpeakersInTurn(t *testing.T) {
	for _, source := range []uint32{5, 6} {
		asks(t, heard(t, 16), spoken{0, 5, 10, 0}, spoken{1, source, 5, 0}, spoken{0, 5, 12, 2}, spoken{1, source, 5, -1}, spoken{1, source, 6, 1}, spoken{2, 5, 12, 0}, spoken{0, 5, 12, -1}, spoken{1, source, 16, 11}, spoken{0, 5, 13, 3}, spoken{2, 5, 11, -1}, spoken{2, 5, 13, 1})
	}
}

// P20.3: room packets wait: it is not taken, one more is lost, and it is remembered nevertheless.
func TestHandedWithoutRoom(t *testing.T) {
	for room := 1; room <= 64; room++ {
		p := heard(t, room)
		lost := func(want int) {
			t.Helper()
			if got := p.forward.Lost(3); got != want {
				t.Fatalf("room %d: %d are lost, want %d", room, got, want)
			}
		}
		var whole []uint16
		for i := range room {
			if p.says(0, 5, uint16(100+i)) != 1 {
				t.Fatalf("room %d: the packet %d is not taken", room, i)
			}
			whole = append(whole, uint16(i))
		}
		lost(0)
		for i := range 3 {
			if p.says(0, 5, uint16(100+room+i)) != 0 {
				t.Fatalf("room %d: one more is taken", room)
			}
			lost(1 + i)
		}
		// What is not greater than what was lost is not lost, either.
		p.says(0, 5, uint16(100+room+2))
		p.says(0, 5, uint16(100+room))
		lost(3)
		p.pulls(3, whole...)
		asks(t, p, spoken{0, 5, uint16(100 + room + 2), -1}, spoken{0, 5, uint16(100 + room + 3), room + 3})
		lost(3)
	}
}

// P20.3: what is lost is remembered with its Source, its own number and the new one: of a speaker who says it first, of another Source, of the same one.
func TestHandedWithoutRoomIsRemembered(t *testing.T) {
	p := heard(t, 1)
	asks(t, p, spoken{0, 5, 50, 0}, spoken{1, 8, 70, -1}, spoken{1, 8, 72, -1})
	if n := p.forward.Lost(3); n != 2 {
		t.Errorf("%d are lost, want 2", n)
	}
	asks(t, p, spoken{1, 8, 75, 5}, spoken{0, 6, 3, -1})
	asks(t, p, spoken{0, 5, 50, 2}, spoken{0, 6, 3, -1}, spoken{0, 6, 5, -1})
	asks(t, p, spoken{0, 6, 4, -1}, spoken{0, 6, 6, 6})
	if n := p.forward.Lost(3); n != 5 {
		t.Errorf("%d are lost, want 5", n)
	}
}

// P20.3: any row of numbers of two Sources, behind each other, with room and without.
func TestHandedRows(t *testing.T) {
	seqs := []uint16{0, 1, 32767, 32768, 65535}
	for room := 1; room <= 3; room++ {
		for row := range 10 * 10 * 10 * 10 {
			forward, words := audio.New(2, room), says(2, room)
			for party := range 2 {
				forward.Listen(party)
				words.listen(party)
			}
			var got, want []string
			for rest, i := row, 0; i < 4; rest, i = rest/10, i+1 {
				x := audio.Packet{Seq: seqs[rest%5], Source: uint32(rest / 5 % 2), Stamp: uint32(i)}
				n, err := forward.Hear(0, x)
				got = append(got, fmt.Sprint(n, err, forward.Lost(1)))
				n, err = words.hear(0, x)
				want = append(want, fmt.Sprint(n, err, words.of(1).lost))
				if i == 1 && row%2 == 0 {
					x, there := forward.Pull(1)
					got = append(got, fmt.Sprint(told(x), there))
					x, there = words.pull(1)
					want = append(want, fmt.Sprint(told(x), there))
				}
			}
			for range 4 {
				x, there := forward.Pull(1)
				got = append(got, fmt.Sprint(told(x), there))
				x, there = words.pull(1)
				want = append(want, fmt.Sprint(told(x), there))
			}
			if !slices.Equal(got, want) {
				t.Fatalf("room %d, row %d: %q, want %q", room, row, got, want)
			}
		}
	}
}
