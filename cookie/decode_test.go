package cookie_test

import (
	"bytes"
	"math/rand"
	"slices"
	"testing"

	"bollard/api"
	"bollard/cookie"
)

// turned are octets of which one is another one.
func turned(b []byte, at int, by byte) []byte {
	out := slices.Clone(b)
	out[at] ^= by
	return out
}

// P9.2: octets that fit are the state, under every key that may be.
func TestDecode(t *testing.T) {
	draw := rand.New(rand.NewSource(92))
	for _, key := range keys() {
		checkDecode(t, "a state that is all 0", key, sealed(key, make([]byte, 48)), api.OK)
		checkDecode(t, "each octet another one", key, sealed(key, laid(ordinary())), api.OK)
		for range 100 {
			checkDecode(t, "a state", key, sealed(key, laid(drawnState(draw))), api.OK)
		}
	}
}

// P9.2: each octet of a number counts, at its own place; those of the times are asked for further down.
func TestDecodeEachBit(t *testing.T) {
	for bit := range 48 * 8 {
		body := make([]byte, 48)
		body[bit/8] = 128 >> (bit % 8)
		want := api.OK
		if bit%64 < 15 && bit < 128 {
			want = api.ErrForm
		}
		checkDecode(t, "one bit", rising(), sealed(rising(), body), want)
	}
}

// P9.2: from 0 octets on to more than may be.
func TestDecodeLengths(t *testing.T) {
	long := append(sealed(rising(), laid(ordinary())), bytes.Repeat([]byte("BOL1"), 20)...)
	for n := range len(long) {
		want := api.OK
		if n < 60 {
			want = api.ErrShort
		} else if n > 60 {
			want = api.ErrForm
		}
		checkDecode(t, "of a length", rising(), long[:n], want)
		checkDecode(t, "of a length and a capacity", rising(), long[:n:n], want)
	}
	checkDecode(t, "nil", rising(), nil, api.ErrShort)
	checkDecode(t, "60 octets 0", rising(), make([]byte, 60), api.ErrForm)
	checkDecode(t, "the mark alone", rising(), []byte("BOL1"), api.ErrShort)
}

// P9.2: one that is too short or too long, its code and its mark where they ought to be seen from its end.
func TestDecodeOtherLengthsThatFit(t *testing.T) {
	draw := rand.New(rand.NewSource(93))
	for n := range 100 {
		want := api.OK
		if n < 48 {
			want = api.ErrShort
		} else if n > 48 {
			want = api.ErrForm
		}
		body := drawnOctets(draw, n)
		copy(body, make([]byte, 16))
		checkDecode(t, "numbers of another length, under a code that fits", rising(), sealed(rising(), body), want)
	}
}

// P9.2: an octet that is another one, at each place.
func TestDecodeTurned(t *testing.T) {
	for _, s := range []cookie.State{{}, ordinary(), {Made: most, Life: most}} {
		b := sealed(rising(), laid(s))
		for at := range b {
			want := api.ErrCookie
			if at >= 56 {
				want = api.ErrForm
			}
			for _, by := range []byte{1, 2, 16, 32, 127, 128, 255} {
				checkDecode(t, "an octet that is another one", rising(), turned(b, at, by), want)
			}
		}
	}
}

// P9.2: two octets that are others in the same way, so that no sum of them tells it.
func TestDecodeTurnedTwice(t *testing.T) {
	b := sealed(rising(), laid(ordinary()))
	for at := range 55 {
		checkDecode(t, "two octets that are others", rising(), turned(turned(b, at, 255), at+1, 255), api.ErrCookie)
		checkDecode(t, "two octets that are others", rising(), turned(turned(b, at, 1), 55, 1), api.ErrCookie)
	}
	swapped := slices.Clone(b)
	slices.Reverse(swapped[48:56])
	checkDecode(t, "a code the lowest octet first", rising(), swapped, api.ErrCookie)
	checkDecode(t, "no code", rising(), slices.Concat(b[:48], make([]byte, 8), []byte("BOL1")), api.ErrCookie)
	checkDecode(t, "the mark ahead of the code", rising(), slices.Concat(b[:48], b[56:], b[48:56]), api.ErrForm)
	checkDecode(t, "the mark ahead of all", rising(), slices.Concat(b[56:], b[:56]), api.ErrForm)
}

// P9.2: other marks.
func TestDecodeMarks(t *testing.T) {
	b := sealed(rising(), laid(ordinary()))
	for _, mark := range []string{"BOL2", "bol1", "1LOB", "BOLI", "\x00\x00\x00\x00", "OBL1", "BOL\x00"} {
		checkDecode(t, "another mark", rising(), append(slices.Clone(b[:56]), mark...), api.ErrForm)
	}
}

// P9.2: times that are too great, each alone and both, under a code that fits.
func TestDecodeTimes(t *testing.T) {
	times := []uint64{0, 1, 1<<32 - 1, 1 << 32, most - 1, most, most + 1, most + 1<<32, 1 << 49, 1<<62 + 5, 1<<63 - 1, 1 << 63, 1<<63 + 5, 1<<64 - most, 1<<64 - 1}
	for _, made := range times {
		for _, life := range times {
			want := api.OK
			if made > most || life > most {
				want = api.ErrForm
			}
			for _, key := range keys() {
				checkDecode(t, "times", key, sealed(key, timed(made, life)), want)
			}
		}
	}
}

// P9.2: octets under another key, of which one bit is another.
func TestDecodeOtherKeys(t *testing.T) {
	for _, key := range keys() {
		b := sealed(key, laid(ordinary()))
		for bit := range 128 {
			checkDecode(t, "another key", turned(key, bit/8, 1<<(bit%8)), b, api.ErrCookie)
		}
	}
}

// faults are octets for each error of P9.2's order, in that order; each of them has all the faults behind it too, where it can.
var faults = []struct {
	name string
	b    []byte
	want api.Errno
}{
	{"too short, another mark, no code, a time too great", sealed(rising(), timed(most+1, most+1))[1:59], api.ErrShort},
	{"too short, though it ends by the mark, no code, a time too great", sealed(rising(), timed(most+1, most+1))[1:], api.ErrShort},
	{"too long, another mark, no code, a time too great", append(make([]byte, 60), sealed(rising(), timed(1<<63, 1<<63))[:58]...), api.ErrForm},
	{"too long, though it ends by the mark, no code, a time too great", append(turned(sealed(rising(), timed(1<<63, 0)), 48, 1), "BOL1"...), api.ErrForm},
	{"too long, though it fits but for that", append([]byte{0}, sealed(rising(), laid(ordinary()))...), api.ErrForm},
	{"another mark, no code, a time too great", turned(turned(sealed(rising(), timed(1<<63, 0)), 48, 1), 59, 1), api.ErrForm},
	{"another mark, no code", turned(turned(sealed(rising(), laid(ordinary())), 48, 1), 56, 1), api.ErrForm},
	{"no code, Made too great", turned(sealed(rising(), timed(most+1, 0)), 55, 1), api.ErrCookie},
	{"no code, Life too great", turned(sealed(rising(), timed(0, most+1)), 48, 128), api.ErrCookie},
	{"no code, both too great", turned(sealed(rising(), timed(1<<64-1, 1<<64-1)), 52, 16), api.ErrCookie},
	{"no code but one of 0, Made too great", append(timed(1<<63, 0), 0, 0, 0, 0, 0, 0, 0, 0, 66, 79, 76, 49), api.ErrCookie},
	{"Made too great", sealed(rising(), timed(most+1, 0)), api.ErrForm},
	{"Life too great", sealed(rising(), timed(0, most+1)), api.ErrForm},
}

// P9.2: of several errors the first one of its order is told; a key that is none is ahead of all.
func TestDecodeOrder(t *testing.T) {
	for _, f := range faults {
		checkDecode(t, f.name, rising(), f.b, f.want)
		for _, key := range badKeys() {
			checkDecode(t, "a key that is none; "+f.name, key, f.b, api.ErrArg)
		}
	}
	for _, key := range badKeys() {
		checkDecode(t, "a key that is none", key, sealed(rising(), laid(ordinary())), api.ErrArg)
		checkDecode(t, "a key that is none, nil", key, nil, api.ErrArg)
		checkDecode(t, "a key that is none, 60 octets under no code at all", key, sealed(key, laid(ordinary())), api.ErrArg)
	}
}

// R3: a state that was decoded stays as it was when the octets and the key are written to, and a state that is written to leaves them.
func TestDecodeKeepsNothing(t *testing.T) {
	key, b := rising(), sealed(rising(), laid(ordinary()))
	s, _ := cookie.Decode(key, b)
	held, _ := cookie.Check(key, b, s.Made)
	s.Ties[0], s.Tag = 1, 1
	checkUnchanged(t, "the octets, when the state is written to", b, sealed(rising(), laid(ordinary())))
	for i := range b {
		b[i] = 99
	}
	for i := range key {
		key[i] = 99
	}
	if held != ordinary() {
		t.Errorf("the state became %+v", held)
	}
	checkDecode(t, "octets that were written to", rising(), b, api.ErrForm)
	checkDecode(t, "the octets as they were", rising(), sealed(rising(), laid(ordinary())), api.OK)
	checkDecode(t, "the octets as they were, the key written to", key, sealed(rising(), laid(ordinary())), api.ErrCookie)
}

// P1 and R3: neither the octets nor the key are changed where they stand within more memory, nor what stands around them.
func TestDecodeAmongOthers(t *testing.T) {
	body := sealed(rising(), laid(ordinary()))
	for _, around := range []byte{0, 66, 255} {
		for place := range 9 {
			room, keyRoom := bytes.Repeat([]byte{around}, 80), bytes.Repeat([]byte{around}, 40)
			copy(room[place:], body)
			copy(keyRoom[place:], rising())
			was, keyWas := slices.Clone(room), slices.Clone(keyRoom)
			checkDecode(t, "elsewhere", keyRoom[place:place+16], room[place:place+60], api.OK)
			checkCheck(t, "elsewhere", keyRoom[place:place+16], room[place:place+60], ordinary().Made, api.OK)
			checkEncode(t, "elsewhere", keyRoom[place:place+16], ordinary())
			checkUnchanged(t, "what stands around the octets", room, was)
			checkUnchanged(t, "what stands around the key", keyRoom, keyWas)
		}
	}
}
