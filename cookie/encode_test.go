package cookie_test

import (
	"bytes"
	"math"
	"math/rand"
	"slices"
	"testing"

	"bollard/api"
	"bollard/cookie"
)

// known are cookies whose octets another program worked out.
var known = []struct {
	name  string
	key   []byte
	state cookie.State
	want  []byte
}{
	{"all 0", rising(), cookie.State{}, append(make([]byte, 48), 190, 105, 249, 82, 46, 184, 5, 92, 66, 79, 76, 49)},
	{"each octet another one", rising(), ordinary(), []byte{
		0, 0, 1, 2, 3, 4, 5, 6, 0, 0, 7, 8, 9, 10, 11, 12, 13, 14, 15, 16, 17, 18, 19, 20, 21, 22, 23, 24, 25, 26, 27, 28,
		29, 30, 31, 32, 33, 34, 35, 36, 37, 38, 39, 40, 41, 42, 43, 44, 227, 136, 185, 2, 215, 88, 105, 65, 66, 79, 76, 49,
	}},
	{"another key", []byte("0123456789abcdef"), cookie.State{Made: 1000, Life: 60000, Tag: 7, Peer: 8, First: 9, PeerFirst: 10, Room: 65536, Out: 10, In: 10}, []byte{
		0, 0, 0, 0, 0, 0, 3, 232, 0, 0, 0, 0, 0, 0, 234, 96, 0, 0, 0, 7, 0, 0, 0, 8, 0, 0, 0, 9, 0, 0, 0, 10,
		0, 1, 0, 0, 0, 0, 0, 0, 0, 0, 0, 0, 0, 10, 0, 10, 38, 139, 199, 15, 55, 115, 221, 99, 66, 79, 76, 49,
	}},
}

// P9.1, P9.2: the cookies that are known, there and back.
func TestKnown(t *testing.T) {
	for _, k := range known {
		if got, ok := cookie.Encode(k.key, k.state); !ok || !bytes.Equal(got, k.want) {
			t.Errorf("%s: %v, %v, want %v", k.name, got, ok, k.want)
		}
		if got, err := cookie.Decode(k.key, k.want); err != api.OK || got != k.state {
			t.Errorf("%s: %+v (%v), want %+v", k.name, got, err, k.state)
		}
	}
}

// P9.1: 60 octets, which end by "BOL1", under every key that may be.
func TestEncode(t *testing.T) {
	draw := rand.New(rand.NewSource(91))
	for _, key := range keys() {
		for range 100 {
			b := checkEncode(t, "a state", key, drawnState(draw))
			if len(b) != 60 || string(b[56:]) != "BOL1" {
				t.Errorf("%d octets: %v", len(b), b)
			}
		}
	}
}

// P9.1: each number alone, at its greatest: its own octets are set, and no others of the 48.
func TestEncodeGreatestAlone(t *testing.T) {
	for _, p := range places {
		var s cookie.State
		want := make([]byte, 48)
		switch n := p.number(&s).(type) {
		case *int:
			*n = most
			want[p.from+1] = 1
		case *uint32:
			*n = math.MaxUint32
			copy(want[p.from:p.to], []byte{255, 255, 255, 255})
		case *uint16:
			*n = math.MaxUint16
			copy(want[p.from:p.to], []byte{255, 255})
		}
		if b := checkEncode(t, p.name, rising(), s); !bytes.HasPrefix(b, want) {
			t.Errorf("%s alone at its greatest: %v, want %v", p.name, b, want)
		}
	}
}

// P9.1: each bit of each number alone, so that the order of its octets is seen.
func TestEncodeEachBit(t *testing.T) {
	for _, p := range places {
		for bit := range 8 * (p.to - p.from) {
			var s cookie.State
			switch n := p.number(&s).(type) {
			case *int:
				*n = 1 << bit
			case *uint32:
				*n = 1 << bit
			case *uint16:
				*n = 1 << bit
			}
			b := checkEncode(t, p.name, rising(), s)
			if p.to-p.from == 8 && bit > 48 {
				continue // a time that may not be
			}
			want := make([]byte, 48)
			want[p.to-1-bit/8] = 1 << (bit % 8)
			if !bytes.HasPrefix(b, want) {
				t.Errorf("%s of bit %d: %v, want %v", p.name, bit, b, want)
			}
		}
	}
}

// P9.1: Made and Life at their edges, each beside each.
func TestEncodeTimes(t *testing.T) {
	told := map[bool]int{}
	for _, made := range edges {
		for _, life := range edges {
			s := ordinary()
			s.Made, s.Life = made, life
			for _, key := range [][]byte{rising(), rising()[:15]} {
				told[checkEncode(t, "times", key, s) != nil]++
			}
		}
	}
	if told[true] != 13*13 {
		t.Errorf("%d of the times may be", told[true])
	}
}

// P9.1: Made and Life just out of their bounds, each alone and both, beside a state that is all 0 otherwise.
func TestEncodeOutOfBounds(t *testing.T) {
	for _, n := range []int{math.MinInt, -1, most + 1, math.MaxInt} {
		checkNone(t, "Made out of bounds", rising(), cookie.State{Made: n})
		checkNone(t, "Life out of bounds", rising(), cookie.State{Life: n})
		checkNone(t, "both out of bounds", rising(), cookie.State{Made: n, Life: n})
		checkNone(t, "Made out of bounds, Life at its greatest", rising(), cookie.State{Made: n, Life: most})
		checkNone(t, "Life out of bounds, Made at its greatest", rising(), cookie.State{Made: most, Life: n})
	}
	checkNone(t, "together within the bounds", rising(), cookie.State{Made: -1, Life: 2})
	checkNone(t, "together within the bounds", rising(), cookie.State{Made: most + 1, Life: -1})
}

// P9.1: a key of another length has no octets.
func TestEncodeBadKeys(t *testing.T) {
	for _, key := range badKeys() {
		checkNone(t, "a key that is none", key, ordinary())
		checkNone(t, "a key that is none, a state that is all 0", key, cookie.State{})
		checkNone(t, "a key that is none, a time that may not be", key, cookie.State{Made: -1})
	}
}

// P9.1: each bit of a key counts.
func TestEncodeEachBitOfTheKey(t *testing.T) {
	first := checkEncode(t, "a key", rising(), ordinary())
	for bit := range 128 {
		key := rising()
		key[bit/8] ^= 1 << (bit % 8)
		other := checkEncode(t, "a key of another bit", key, ordinary())
		if !bytes.Equal(other[:48], first[:48]) || slices.Equal(other[48:56], first[48:56]) {
			t.Errorf("bit %d of the key: %v, without it %v", bit, other, first)
		}
	}
}

// R3: what is answered is new memory, each time.
func TestEncodeIsNewMemory(t *testing.T) {
	whole := append(rising(), 77, 77, 77)
	key := whole[:16]
	one, _ := cookie.Encode(key, ordinary())
	two, _ := cookie.Encode(key, ordinary())
	want := slices.Clone(one)
	for i := range one {
		one[i] = 99
	}
	_ = append(one, 99, 99, 99)
	checkUnchanged(t, "the key, when an answer is written to", whole, append(rising(), 77, 77, 77))
	checkUnchanged(t, "another answer, when one is written to", two, want)
	for i := range whole {
		whole[i] = 42
	}
	checkUnchanged(t, "an answer, when the key is written to", two, want)
	if again, ok := cookie.Encode(rising(), ordinary()); !ok || !bytes.Equal(again, want) {
		t.Errorf("asked again: %v, %v, want %v", again, ok, want)
	}
}
