package tlv_test

import (
	"bytes"
	"math/rand"
	"testing"

	"bollard/api"
	"bollard/tlv"
)

// checkThereAndBack asks that parameters, written and read, are the same.
func checkThereAndBack(t *testing.T, what string, l []api.Param) {
	t.Helper()
	b, err := tlv.Encode(l)
	if err != api.OK {
		t.Errorf("%s: Encode tells %v", what, err)
		return
	}
	if len(b)%4 != 0 {
		t.Errorf("%s: %d octets", what, len(b))
	}
	checkDecode(t, what, b, l, api.OK)
}

// P6.4: parameters of every size and kind, and as many as may be, are the same there and back.
func TestThereAndBack(t *testing.T) {
	checkThereAndBack(t, "none", nil)
	for n := range 33 {
		checkThereAndBack(t, "some", params(n))
		checkThereAndBack(t, "empty ones", make([]api.Param, n))
	}
	for n := range 1201 {
		checkThereAndBack(t, "a size", []api.Param{{Kind: 1, V: value(n)}, {Kind: 2, V: make([]byte, n)}, {Kind: 3}})
	}
	for _, kind := range kinds {
		checkThereAndBack(t, "a kind", []api.Param{{Kind: kind}, {Kind: ^kind, V: value(3)}, {Kind: kind, V: value(5)}})
	}
}

// P6.4: rows of parameters, drawn from a fixed seed, are the same there and back, if they are written at all.
func TestRowsThereAndBack(t *testing.T) {
	draw := rand.New(rand.NewSource(63))
	written := 0
	for range 3000 {
		l := drawnParams(draw)
		if _, err := wordOfEncode(l); err == api.OK {
			checkThereAndBack(t, "a row", l)
			written++
		}
	}
	if written < 1000 {
		t.Errorf("only %d rows are written", written)
	}
}

// P6.4: octets that are read are written so, whichever they are; all short ones of a few numbers are gone through.
func TestOctetsThereAndBack(t *testing.T) {
	numbers := []byte{0, 4, 5, 255}
	read := 0
	for n := range 9 {
		for count := range 1 << (2 * n) {
			b := make([]byte, n)
			for i := range b {
				b[i] = numbers[count>>(2*i)&3]
			}
			want, wantErr := wordOfDecode(b)
			l, err := tlv.Decode(b)
			if err != wantErr || !alike(l, want) {
				t.Errorf("%v: %v (%v), want %v (%v)", b, l, err, want, wantErr)
			}
			if err != api.OK {
				continue
			}
			read++
			if got, err := tlv.Encode(l); err != api.OK || !bytes.Equal(got, b) {
				t.Errorf("%v is written as %v (%v)", b, got, err)
			}
		}
	}
	if read < 100 {
		t.Errorf("only %d are read", read)
	}
}

// P6.4: octets drawn from a fixed seed are written as they were read.
func TestDrawnOctetsThereAndBack(t *testing.T) {
	draw := rand.New(rand.NewSource(64))
	read := 0
	for range 5000 {
		b, _ := wordOfEncode(drawnParams(draw))
		if len(b) > 0 && draw.Intn(2) == 0 {
			b[draw.Intn(len(b))] ^= 1 << draw.Intn(8)
		}
		l, err := tlv.Decode(b)
		if err != api.OK {
			continue
		}
		read++
		if got, err := tlv.Encode(l); err != api.OK || !bytes.Equal(got, b) {
			t.Errorf("%d octets are written as %d (%v)", len(b), len(got), err)
		}
	}
	if read < 1000 {
		t.Errorf("only %d are read", read)
	}
}

// P1: no call panics, whatever the octets are, and each ends.
func TestAnyOctets(t *testing.T) {
	draw := rand.New(rand.NewSource(65))
	for n := range 3000 {
		b := make([]byte, draw.Intn(n+1))
		draw.Read(b)
		want, err := wordOfDecode(b)
		checkDecode(t, "any octets", b, want, err)
		for _, x := range []byte{0, 1, 4, 255} {
			same := bytes.Repeat([]byte{x}, n)
			want, err := wordOfDecode(same)
			checkDecode(t, "the same octets", same, want, err)
		}
	}
}

// P1: very many octets and parameters are told to be so, soon.
func TestVeryMany(t *testing.T) {
	checkError(t, "very many", bytes.Repeat([]byte{0, 1, 0, 4}, 5000000), api.ErrLarge)
	checkError(t, "one very long", rough(1, 65535, make([]byte, 20000000)...), api.ErrLarge)
	checkEncode(t, "very many", make([]api.Param, 1000000), nil, api.ErrLarge)
	checkEncode(t, "one very long", []api.Param{{V: make([]byte, 20000000)}}, nil, api.ErrLarge)
}

// R3, R1: one answer does not hang on what was asked ahead of it.
func TestNothingIsKept(t *testing.T) {
	good := []byte{0, 7, 0, 5, 9, 0, 0, 0}
	for _, bad := range [][]byte{{0}, {0, 7, 0, 3}, {0, 7, 4, 181}, bytes.Repeat([]byte{0, 1, 0, 4}, 33)} {
		tlv.Decode(bad)
		checkDecode(t, "behind an error", good, []api.Param{{Kind: 7, V: []byte{9}}}, api.OK)
		tlv.Encode(make([]api.Param, 33))
		checkEncode(t, "behind an error", []api.Param{{Kind: 7, V: []byte{9}}}, good, api.OK)
	}
}
