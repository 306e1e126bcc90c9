package tlv_test

import (
	"bytes"
	"math/rand"
	"slices"
	"testing"

	"bollard/api"
	"bollard/tlv"
)

// P6.1: the chapter's example, and each one behind the other.
func TestEncode(t *testing.T) {
	checkEncode(t, "the example", []api.Param{{Kind: 7, V: []byte{9}}}, []byte{0, 7, 0, 5, 9, 0, 0, 0}, api.OK)
	l := []api.Param{{Kind: 258, V: []byte{1, 2, 3}}, {Kind: 65535}, {Kind: 0, V: []byte{5, 6, 7, 8}}, {Kind: 258, V: []byte{0, 0}}}
	want := []byte{1, 2, 0, 7, 1, 2, 3, 0, 255, 255, 0, 4, 0, 0, 0, 8, 5, 6, 7, 8, 1, 2, 0, 6, 0, 0, 0, 0}
	checkEncode(t, "four", l, want, api.OK)
	slices.Reverse(l)
	checkEncode(t, "four, the last one first", l, append(append(append(bytes.Clone(want[20:]), want[12:20]...), want[8:12]...), want[:8]...), api.OK)
}

// P6.1: none, one, and as many as may be; one more is too many, however short.
func TestEncodeHowMany(t *testing.T) {
	checkEncode(t, "nil", nil, nil, api.OK)
	checkEncode(t, "none", []api.Param{}, nil, api.OK)
	for _, n := range []int{1, 2, 31, 32} {
		want, _ := wordOfEncode(params(n))
		checkEncode(t, "some", params(n), want, api.OK)
		checkEncode(t, "empty ones", make([]api.Param, n), bytes.Repeat([]byte{0, 0, 0, 4}, n), api.OK)
	}
	for _, n := range []int{33, 34, 64, 1000} {
		checkEncode(t, "too many", params(n), nil, api.ErrLarge)
		checkEncode(t, "too many empty ones", make([]api.Param, n), nil, api.ErrLarge)
	}
}

// P6.1: a value of every size that may be, filled up with octets 0; its length stands without them.
func TestEncodeSizes(t *testing.T) {
	for _, n := range sizes {
		want := rough(7, 4+n, value(n)...)
		want = append(want, make([]byte, (4-n%4)%4)...)
		checkEncode(t, "one", []api.Param{{Kind: 7, V: value(n)}}, want, api.OK)
		checkEncode(t, "behind it another one", []api.Param{{Kind: 7, V: value(n)}, {Kind: 8}}, append(want, 0, 8, 0, 4), api.OK)
	}
}

// P6.1: a value that is too long is so at each place, beside others and among too many.
func TestEncodeTooLong(t *testing.T) {
	for _, n := range []int{1201, 1202, 1204, 65531, 65532, 65536, 65540, 100000} {
		for place := range 32 {
			l := params(32)
			l[place].V = value(n)
			checkEncode(t, "too long", l, nil, api.ErrLarge)
			checkEncode(t, "too long, the last one", l[:place+1], nil, api.ErrLarge)
		}
		checkEncode(t, "too long and too many", slices.Repeat([]api.Param{{V: value(n)}}, 33), nil, api.ErrLarge)
	}
	l := slices.Repeat([]api.Param{{Kind: 9, V: value(1200)}}, 32)
	want, _ := wordOfEncode(l)
	checkEncode(t, "as many and as long as may be", l, want, api.OK)
}

// P6.1: a kind in 16 bits, the highest octet first.
func TestEncodeKinds(t *testing.T) {
	for _, kind := range kinds {
		checkEncode(t, "a kind", []api.Param{{Kind: kind}, {Kind: kind, V: []byte{3}}}, append(rough(kind, 4), rough(kind, 5, 3, 0, 0, 0)...), api.OK)
	}
}

// P6.1: rows of parameters, drawn from a fixed seed, are as the chapter's words have them.
func TestEncodeRows(t *testing.T) {
	draw := rand.New(rand.NewSource(61))
	for range 2000 {
		l := drawnParams(draw)
		want, err := wordOfEncode(l)
		checkEncode(t, "a row", l, want, err)
	}
}

// R3: neither a value nor the memory behind it is touched, and what is answered shares none of it.
func TestEncodeIsNewMemory(t *testing.T) {
	for n := range 9 {
		for _, room := range []int{0, 1, 8} {
			whole := bytes.Repeat([]byte{99}, n+room)
			list := []api.Param{{Kind: 1, V: whole[:n]}, {Kind: 2, V: whole[:n]}, {Kind: 3}}
			got, _ := tlv.Encode(list[:2])
			again, _ := tlv.Encode(list[:2])
			if !bytes.Equal(whole, bytes.Repeat([]byte{99}, n+room)) || list[2].Kind != 3 || list[2].V != nil {
				t.Errorf("%d octets with room for %d: what was handed in became %v, %v", n, room, whole, list)
			}
			for i := range whole {
				whole[i] = 42
			}
			list[0].Kind, list[1].Kind = 77, 78
			if !bytes.Equal(got, again) || got[1] != 1 || n > 0 && got[4] != 99 {
				t.Errorf("%d octets with room for %d: the answer changes with what was handed in", n, room)
			}
			for i := range got {
				got[i] = 43
			}
			_ = append(got, 43, 43, 43, 43)
			if !bytes.Equal(whole, bytes.Repeat([]byte{42}, n+room)) || list[0].Kind != 77 || list[2].Kind != 3 {
				t.Errorf("%d octets with room for %d: what was handed in changes with the answer", n, room)
			}
			if again[1] != 1 || n > 0 && again[4] != 99 {
				t.Errorf("%d octets with room for %d: one answer changes with another", n, room)
			}
		}
	}
}
