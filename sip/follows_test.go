package sip_test

import (
	"slices"
	"testing"

	"bollard/sip"
)

// checkCode asks that a call answers the code that is known.
func checkCode(t *testing.T, what string, key, b []byte, want uint64) {
	t.Helper()
	if got, ok := sip.Code(key, b); got != want || !ok {
		t.Errorf("%s: %d, %v, want %d", what, got, ok, want)
	}
}

// P4.3: the same key and octets have the same code at every place of memory, whatever stands ahead of them and behind.
func TestOtherPlaces(t *testing.T) {
	for _, key := range keys() {
		for _, n := range lengths() {
			b := drawn(int64(n), n)
			want := wordOfCode(key, b)
			for place := range 10 {
				for _, around := range []byte{0, 170, 255} {
					keyRoom, room := same(around, 16+2*place), same(around, n+2*place)
					copy(keyRoom[place:], key)
					copy(room[place:], b)
					checkCode(t, "elsewhere", keyRoom[place:place+16], room[place:place+n], want)
					checkCode(t, "the octets elsewhere", key, room[place:place+n:place+n], want)
				}
			}
		}
	}
}

// P4.3: a key that stands within the octets, or is all of them, has the code of one beside them.
func TestKeyWithinTheOctets(t *testing.T) {
	for _, n := range []int{16, 17, 24, 40, 256, 300} {
		b := drawn(int64(n), n)
		for _, place := range []int{0, (n - 16) / 2, n - 16} {
			key := b[place : place+16]
			checkCode(t, "a key within the octets", key, b, wordOfCode(slices.Clone(key), b))
		}
	}
}

// P4.3: what was asked before does not count, not even under the same key or of memory that has changed since.
func TestNothingIsKept(t *testing.T) {
	key, b := drawn(1, 16), drawn(2, 21)
	first := wordOfCode(key, b)
	checkCode(t, "at first", key, b, first)
	for i := range 21 {
		b[i] ^= 129
		checkCode(t, "octets that changed", key, b, wordOfCode(key, b))
		key[i%16] ^= 65
		checkCode(t, "a key that changed", key, b, wordOfCode(key, b))
		sip.Code(key[:i%16], b)
		sip.Round([4]uint64{1, 2, 3, uint64(i)})
	}
	checkCode(t, "as at first", drawn(1, 16), drawn(2, 21), first)
}

// P1 and R3: no call panics at any lengths, and each leaves what is handed in, and what stands behind it, as it stood.
func TestEveryArgument(t *testing.T) {
	for keyLength := range 40 {
		for _, n := range lengths() {
			keyRoom, room := drawn(int64(keyLength), keyLength+20), drawn(int64(n), n+20)
			wasKey, was := slices.Clone(keyRoom), slices.Clone(room)
			code, ok := sip.Code(keyRoom[:keyLength], room[:n])
			if again, okAgain := sip.Code(keyRoom[:keyLength], room[:n]); again != code || okAgain != ok {
				t.Errorf("a key of %d, %d octets: answered otherwise when asked again", keyLength, n)
			}
			if ok != (keyLength == 16) {
				t.Errorf("a key of %d, %d octets: %d, %v", keyLength, n, code, ok)
			}
			if !slices.Equal(keyRoom, wasKey) || !slices.Equal(room, was) {
				t.Errorf("a key of %d, %d octets: what was handed in changed", keyLength, n)
			}
		}
	}
}

// R3: Round's numbers stand afterwards as they stood.
func TestRoundLeavesItsNumbers(t *testing.T) {
	for _, x := range numbers {
		v := [4]uint64{x, ^x, x + 1, 7}
		was := v
		got := sip.Round(v)
		for i := range got {
			got[i] = 5
		}
		if v != was {
			t.Errorf("%v became %v", was, v)
		}
		checkRound(t, v)
	}
}
