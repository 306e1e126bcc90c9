package audio_test

import (
	"bytes"
	"testing"

	"bollard/api"
	"bollard/audio"
)

// listeners is a Forwarder all of whose parties listen.
func listeners(parties, room int) *audio.Forwarder {
	forward := audio.New(parties, room)
	for party := range parties {
		forward.Listen(party)
	}
	return forward
}

// R3: the octets of what is said are neither changed nor kept: turning them later changes nothing that is told.
func TestSaidOctetsAreNotKept(t *testing.T) {
	forward := listeners(3, 4)
	memory := []byte("hi there")
	for i := range 4 {
		forward.Hear(0, audio.Packet{Seq: uint16(i), Data: memory[2*i : 2*i+2]})
	}
	if string(memory) != "hi there" {
		t.Errorf("what was handed in became %q", memory)
	}
	turn(memory)
	for party := 1; party < 3; party++ {
		for _, want := range []string{"hi", " t", "he", "re"} {
			if x, _ := forward.Pull(party); string(x.Data) != want {
				t.Errorf("%d pulls %q, want %q", party, x.Data, want)
			}
		}
	}
}

// R3: turning what was told to one party changes nothing that is told to another one, then or before.
func TestToldOctetsAreOnesOwn(t *testing.T) {
	forward := listeners(16, 4)
	for seq, n := range []int{0, 1, 2, 8, 100, 1188} {
		data := bytes.Repeat([]byte{5}, n)
		forward.Hear(0, audio.Packet{Seq: uint16(seq), Data: data})
		var l []audio.Packet
		for party := 1; party < 16; party++ {
			x, _ := forward.Pull(party)
			if !bytes.Equal(x.Data, data) {
				t.Fatalf("%d octets: %d pulls %s", n, party, told(x))
			}
			l = append(l, x)
			if party%2 == 0 {
				turn(x.Data)
			}
		}
		for i, x := range l {
			if i%2 == 0 && !bytes.Equal(x.Data, data) {
				t.Fatalf("%d octets: what %d pulled became %s", n, i+1, told(x))
			}
		}
		if !bytes.Equal(data, bytes.Repeat([]byte{5}, n)) {
			t.Fatalf("what was handed in became %v", data)
		}
	}
}

// R3: turning what was told changes nothing that the same party is told later.
func TestToldOctetsAreToldOnce(t *testing.T) {
	forward := listeners(2, 4)
	memory := []byte("abcd")
	for i := range 4 {
		forward.Hear(0, audio.Packet{Seq: uint16(i), Data: memory[i : i+1]})
	}
	for _, want := range []string{"a", "b", "c", "d"} {
		x, _ := forward.Pull(1)
		if string(x.Data) != want {
			t.Errorf("Pull is %q, want %q", x.Data, want)
		}
		turn(x.Data)
	}
}

// R3: what was told stays, whatever comes then.
func TestToldStays(t *testing.T) {
	forward := listeners(2, 4)
	var l []audio.Packet
	for i := range 40 {
		forward.Hear(0, audio.Packet{Seq: uint16(i), Data: []byte{byte(i), 1, 2, 3}})
		x, _ := forward.Pull(1)
		l = append(l, x)
	}
	forward.Quiet(1)
	forward.Listen(1)
	for i, x := range l {
		if want := (audio.Packet{Seq: uint16(i), Source: 1, Data: []byte{byte(i), 1, 2, 3}}); !samePackets(x, want) {
			t.Errorf("what was told became %s, want %s", told(x), told(want))
		}
	}
}

// R3: two Forwarders share nothing.
func TestForwardersShareNothing(t *testing.T) {
	one, two := listeners(2, 4), audio.New(2, 4)
	for i := range 6 {
		one.Hear(0, audio.Packet{Seq: uint16(100 + i)})
	}
	nothing(t, two, 1)
	if err := two.Quiet(0); err != api.ErrClosed {
		t.Errorf("Quiet is %v", err)
	}
	two.Listen(0)
	two.Listen(1)
	two.Hear(0, audio.Packet{Seq: 50})
	if x, _ := two.Pull(1); x.Seq != 0 {
		t.Errorf("Pull is %s", told(x))
	}
	if one.Waiting(1) != 4 || one.Lost(1) != 2 {
		t.Errorf("%d wait, %d are lost", one.Waiting(1), one.Lost(1))
	}
}
