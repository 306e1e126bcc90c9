package sip_test

import (
	"math/big"
	"math/rand"
	"testing"

	"bollard/sip"
)

const top = 1<<64 - 1

// numbers are numbers at which a sum goes round or a bit may be lost, and ordinary ones.
var numbers = []uint64{
	0, 1, 2, 1000, 1<<13 - 1, 1 << 16, 1<<31 - 1, 1 << 31, 1<<32 - 1, 1 << 32, 1<<32 + 1, 1 << 43, 1 << 47, 1 << 51,
	1<<63 - 1, 1 << 63, 1<<63 + 1, top - 1<<32, top - 1, top, 0x0123456789abcdef, 0xfedcba9876543210,
}

// drawn are n octets from a fixed seed.
func drawn(seed int64, n int) []byte {
	b := make([]byte, n)
	rand.New(rand.NewSource(seed)).Read(b)
	return b
}

// rising are n octets: 0, 1, 2, .., behind 255 from 0 again.
func rising(n int) []byte {
	b := make([]byte, n)
	for i := range b {
		b[i] = byte(i)
	}
	return b
}

// same are n octets x.
func same(x byte, n int) []byte {
	b := make([]byte, n)
	for i := range b {
		b[i] = x
	}
	return b
}

// lengths are all from 0 to 40, and those about which the length's octet goes round.
func lengths() []int {
	var out []int
	for n := range 41 {
		out = append(out, n)
	}
	return append(out, 127, 128, 129, 247, 248, 254, 255, 256, 257, 258, 263, 264, 265, 511, 512, 513, 1200)
}

// keys are keys of 16 octets.
func keys() [][]byte {
	return [][]byte{rising(16), make([]byte, 16), same(255, 16), same(128, 16), drawn(1, 16), drawn(2, 16), []byte("0123456789abcdef")}
}

// wrap is a number as 64 bits have it.
func wrap(x *big.Int) *big.Int { return x.Mod(x, new(big.Int).Lsh(big.NewInt(1), 64)) }

// wordOfRound says Round as the chapter does, by numbers that can not go round, each step on its own.
func wordOfRound(v [4]*big.Int) [4]*big.Int {
	a, b, c, d := v[0], v[1], v[2], v[3]
	add := func(x, y *big.Int) *big.Int { return wrap(new(big.Int).Add(x, y)) }
	xor := func(x, y *big.Int) *big.Int { return new(big.Int).Xor(x, y) }
	rotl := func(x *big.Int, n uint) *big.Int {
		turned := new(big.Int).Lsh(x, n)
		over := new(big.Int).Rsh(turned, 64)
		return new(big.Int).Or(wrap(turned), over)
	}
	a = add(a, b)
	b = rotl(b, 13)
	b = xor(b, a)
	a = rotl(a, 32)
	c = add(c, d)
	d = rotl(d, 16)
	d = xor(d, c)
	a = add(a, d)
	d = rotl(d, 21)
	d = xor(d, a)
	c = add(c, b)
	b = rotl(b, 17)
	b = xor(b, c)
	c = rotl(c, 32)
	return [4]*big.Int{a, b, c, d}
}

// wordsOf are the words of octets: filled up behind to one octet short of a multiple of eight, then the length's octet.
func wordsOf(b []byte) []*big.Int {
	filled := append([]byte(nil), b...)
	for len(filled)%8 != 7 {
		filled = append(filled, 0)
	}
	filled = append(filled, byte(len(b)%256))
	var out []*big.Int
	for ; len(filled) > 0; filled = filled[8:] {
		out = append(out, asNumber(filled[:8]))
	}
	return out
}

// asNumber is eight octets as a number, the first one the lowest.
func asNumber(b []byte) *big.Int {
	n := new(big.Int)
	for i := len(b) - 1; i >= 0; i-- {
		n.Mul(n, big.NewInt(256))
		n.Add(n, big.NewInt(int64(b[i])))
	}
	return n
}

// wordOfCode says Code as the chapter does, for a key of 16 octets.
func wordOfCode(key, b []byte) uint64 {
	k, m := asNumber(key[:8]), asNumber(key[8:])
	xor := func(x, y *big.Int) *big.Int { return new(big.Int).Xor(x, y) }
	v := [4]*big.Int{
		xor(k, big.NewInt(8317987319222330741)), xor(m, big.NewInt(7237128888997146477)),
		xor(k, big.NewInt(7816392313619706465)), xor(m, big.NewInt(8387220255154660723)),
	}
	for _, w := range wordsOf(b) {
		v[3] = xor(v[3], w)
		v = wordOfRound(wordOfRound(v))
		v[0] = xor(v[0], w)
	}
	v[2] = xor(v[2], big.NewInt(255))
	for range 4 {
		v = wordOfRound(v)
	}
	return xor(xor(v[0], v[1]), xor(v[2], v[3])).Uint64()
}

// checkRound asks that Round is what the chapter's words say.
func checkRound(t *testing.T, v [4]uint64) {
	t.Helper()
	var big4 [4]*big.Int
	for i, x := range v {
		big4[i] = new(big.Int).SetUint64(x)
	}
	got := sip.Round(v)
	for i, want := range wordOfRound(big4) {
		if got[i] != want.Uint64() {
			t.Errorf("Round(%v) is %v: number %d, want %d", v, got, i, want)
		}
	}
}

// P4.1: rounds that were worked out by hand.
func TestRound(t *testing.T) {
	for _, r := range []struct {
		name    string
		v, want [4]uint64
	}{
		{"four 0", [4]uint64{}, [4]uint64{}},
		{"the first one 1", [4]uint64{1, 0, 0, 0}, [4]uint64{1 << 32, 1<<17 + 1, 1 << 32, 1 << 32}},
		{"the third one 1", [4]uint64{0, 0, 1, 0}, [4]uint64{1, 1, 1 << 32, 1<<21 + 1}},
		{"all bits, all sums go round", [4]uint64{top, top, top, top}, [4]uint64{top - 1<<32 + 1, top - 1<<17, top, top - 1<<32 + 1<<21 + 1}},
		{"a sum of just 2^64, the first one", [4]uint64{1, top, 0, 0}, [4]uint64{0, 0, top, 0}},
		{"a sum of just 2^64, the third one", [4]uint64{0, 0, 1, top}, [4]uint64{top, 0, 0, 0}},
	} {
		if got := sip.Round(r.v); got != r.want {
			t.Errorf("%s: Round(%v) is %v, want %v", r.name, r.v, got, r.want)
		}
	}
}

// P4.1: every two of the edges beside each other, at all places.
func TestRoundAtEdges(t *testing.T) {
	for i, x := range numbers {
		for j, y := range numbers {
			p, q := numbers[(i+j)%len(numbers)], numbers[(i*5+j*3+1)%len(numbers)]
			checkRound(t, [4]uint64{x, y, p, q})
			checkRound(t, [4]uint64{p, q, x, y})
			checkRound(t, [4]uint64{x, p, q, y})
			checkRound(t, [4]uint64{p, x, y, q})
		}
	}
}

// P4.1: each bit alone, and each alone left out, at each place.
func TestRoundOfEachBit(t *testing.T) {
	for place := range 4 {
		for bit := range 64 {
			var v [4]uint64
			v[place] = 1 << bit
			checkRound(t, v)
			checkRound(t, [4]uint64{^v[0], ^v[1], ^v[2], ^v[3]})
		}
	}
}

// P4.1: numbers that are drawn from a fixed seed.
func TestRoundOfDrawn(t *testing.T) {
	draw := rand.New(rand.NewSource(4))
	for range 3000 {
		checkRound(t, [4]uint64{draw.Uint64(), draw.Uint64(), draw.Uint64(), draw.Uint64()})
	}
}

// codes are codes of 0, 1, .. under the key 0, 1, .. 15, as other programs of SipHash-2-4 make them.
var codes = map[int]uint64{
	0: 0x726fdb47dd0e0e31, 1: 0x74f839c593dc67fd, 2: 0x0d6c8009d9a94f5a, 3: 0x85676696d7fb7e2d,
	4: 0xcf2794e0277187b7, 5: 0x18765564cd99a68d, 6: 0xcbc9466e58fee3ce, 7: 0xab0200f58b01d137,
	8: 0x93f5f5799a932462, 9: 0x9e0082df0ba9e4b0, 10: 0x7a5dbbc594ddb9f3, 11: 0xf4b32f46226bada7,
	12: 0x751e8fbc860ee5fb, 13: 0x14ea5627c0843d90, 14: 0xf723ca908e7af2ee, 15: 0xa129ca6149be45e5,
	16: 0x3f2acc7f57c29bdb, 17: 0x699ae9f52cbe4794, 255: 0xa9c169fec74db21a, 256: 0x999d0526d2a7bfd7,
	257: 0x8a817b8d55b29748, 263: 0x86d801b865760792, 264: 0xe76e0db3fa0ee85c, 512: 0x883b57c3e55ada0e,
	1200: 0x9a3ca85848182177,
}

// P4.2: the codes that are known.
func TestKnownCodes(t *testing.T) {
	for n, want := range codes {
		if got, ok := sip.Code(rising(16), rising(n)); got != want || !ok {
			t.Errorf("%d octets: %#x, %v, want %#x", n, got, ok, want)
		}
	}
}

// P4.2: octets of every length up to 40 and of lengths beyond 255, under all keys.
func TestCode(t *testing.T) {
	for _, key := range keys() {
		for _, n := range lengths() {
			for _, b := range [][]byte{rising(n), make([]byte, n), same(255, n), drawn(int64(n), n)} {
				if got, ok := sip.Code(key, b); got != wordOfCode(key, b) || !ok {
					t.Errorf("under %v, %d octets: %d, %v, want %d", key, n, got, ok, wordOfCode(key, b))
				}
			}
		}
	}
}

// P4.2: many octets, about the length at which 16 bits go round.
func TestCodeOfMany(t *testing.T) {
	key := drawn(7, 16)
	for _, n := range []int{65535, 65536, 65537} {
		b := drawn(int64(n), n)
		if got, ok := sip.Code(key, b); got != wordOfCode(key, b) || !ok {
			t.Errorf("%d octets: %d, %v, want %d", n, got, ok, wordOfCode(key, b))
		}
	}
}

// P4.2: each octet of a key counts, at its own place.
func TestEachOctetOfTheKey(t *testing.T) {
	for place := range 16 {
		for _, x := range []byte{1, 127, 128, 255} {
			key := make([]byte, 16)
			key[place] = x
			for _, b := range [][]byte{nil, []byte("abc"), rising(16)} {
				if got, ok := sip.Code(key, b); got != wordOfCode(key, b) || !ok {
					t.Errorf("under %v, %v: %d, %v", key, b, got, ok)
				}
			}
		}
	}
}

// P4.2: each octet counts, at its own place, in whole words and behind them.
func TestEachOctet(t *testing.T) {
	key := drawn(3, 16)
	for n := range 25 {
		for place := range n {
			for _, x := range []byte{1, 128, 255} {
				b := make([]byte, n)
				b[place] = x
				if got, ok := sip.Code(key, b); got != wordOfCode(key, b) || !ok {
					t.Errorf("%v: %d, %v", b, got, ok)
				}
			}
		}
	}
}

// P4.2: no octets at all have a code, by the one word that tells their length.
func TestNoOctets(t *testing.T) {
	for _, key := range keys() {
		for _, b := range [][]byte{nil, {}, rising(9)[9:], rising(9)[:0]} {
			if got, ok := sip.Code(key, b); got != wordOfCode(key, nil) || !ok {
				t.Errorf("under %v, nothing: %d, %v, want %d", key, got, ok, wordOfCode(key, nil))
			}
		}
	}
}

// P4.2: a key of another length answers 0 and false, whatever the octets are.
func TestWrongKeys(t *testing.T) {
	wrong := [][]byte{nil, {}, rising(16)[:0], rising(16)[:15], rising(17)[:15], rising(16)[1:]}
	for _, n := range []int{1, 2, 7, 8, 9, 12, 14, 15, 17, 18, 24, 31, 32, 33, 255, 256, 272, 65552} {
		wrong = append(wrong, make([]byte, n), rising(n))
	}
	for _, key := range wrong {
		for _, n := range []int{0, 1, 7, 8, 9, 15, 16, 17, 256, 1200} {
			if got, ok := sip.Code(key, rising(n)); got != 0 || ok {
				t.Errorf("a key of %d, %d octets: %d, %v", len(key), n, got, ok)
			}
		}
	}
}

// The chapter's examples, as they stand there.
func TestExamples(t *testing.T) {
	if got, ok := sip.Code(rising(16), rising(15)); got != 11613035633349379557 || !ok {
		t.Errorf("the code of 0, 1, .. 14 is %d, %v", got, ok)
	}
	if got := sip.Round([4]uint64{}); got != [4]uint64{} {
		t.Errorf("Round of four 0 is %v", got)
	}
}
