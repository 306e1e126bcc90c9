package cookie_test

import (
	"bytes"
	"math/rand"
	"testing"

	"bollard/api"
	"bollard/cookie"
)

// checkThereAndBack asks that a state is the same once it was octets, and is fresh just when it ought to be.
func checkThereAndBack(t *testing.T, key []byte, s cookie.State) {
	t.Helper()
	b, ok := cookie.Encode(key, s)
	if !ok {
		t.Errorf("%+v has no octets", s)
		return
	}
	if got, err := cookie.Decode(key, b); err != api.OK || got != s {
		t.Errorf("%+v came back as %+v (%v)", s, got, err)
	}
	for _, now := range []int{s.Made, s.Made + s.Life/3, s.Made + s.Life} {
		if got, err := cookie.Check(key, b, now); err != api.OK || got != s {
			t.Errorf("%+v came back at %d as %+v (%v)", s, now, got, err)
		}
	}
	for _, now := range []int{s.Made - 1, s.Made + s.Life + 1} {
		if got, err := cookie.Check(key, b, now); err != api.ErrStale || got != (cookie.State{}) {
			t.Errorf("%+v came back at %d as %+v (%v), want %v", s, now, got, err, api.ErrStale)
		}
	}
}

// P9.4: there and back a state is the same, and it is fresh from Made on, up to Made and Life.
func TestThereAndBack(t *testing.T) {
	draw := rand.New(rand.NewSource(95))
	for _, key := range keys() {
		checkThereAndBack(t, key, cookie.State{})
		checkThereAndBack(t, key, ordinary())
		for range 300 {
			checkThereAndBack(t, key, drawnState(draw))
		}
		for _, made := range []int{0, 1, 1<<32 - 1, 1 << 32, most} {
			for _, life := range []int{0, 1, 1<<32 - 1, 1 << 32, most} {
				checkThereAndBack(t, key, cookie.State{Made: made, Life: life})
			}
		}
	}
}

// P9.4: octets that are decoded are those that are encoded of what they are.
func TestBackAndThere(t *testing.T) {
	draw := rand.New(rand.NewSource(96))
	for _, key := range keys() {
		for range 300 {
			body := drawnOctets(draw, 48)
			copy(body, []byte{0, 0})
			copy(body[8:], []byte{0, 0})
			b := sealed(key, body)
			s, err := cookie.Decode(key, b)
			if err != api.OK {
				t.Errorf("%v: %v", b, err)
			}
			if again, ok := cookie.Encode(key, s); !ok || !bytes.Equal(again, b) {
				t.Errorf("%v are encoded as %v, %v", b, again, ok)
			}
		}
	}
}

// W4: octets that nobody made under the key are no state, however like a cookie they are.
func TestStrangers(t *testing.T) {
	draw := rand.New(rand.NewSource(97))
	for range 3000 {
		b := append(drawnOctets(draw, 56), "BOL1"...)
		copy(b, []byte{0, 0})
		copy(b[8:], []byte{0, 0})
		checkDecode(t, "a stranger", rising(), b, api.ErrCookie)
		checkDecode(t, "a stranger with a key", rising(), sealed(drawnOctets(draw, 16), b[:48]), api.ErrCookie)
	}
}

// P1: no call panics, at keys and octets of every length, and each answers what the chapter's words have.
func TestEveryArgument(t *testing.T) {
	draw := rand.New(rand.NewSource(98))
	for keyLength := range 40 {
		key := drawnOctets(draw, keyLength)
		for n := range 130 {
			b := drawnOctets(draw, n)
			if draw.Intn(2) == 0 {
				b = append(b[:max(n-4, 0)], "BOL1"...)
			}
			_, err := wordOfDecode(key, b)
			checkDecode(t, "any octets", key, b, err)
			for _, now := range edges {
				checkCheck(t, "any octets", key, b, now, err)
			}
		}
		for _, made := range edges {
			checkEncode(t, "any key", key, cookie.State{Made: made, Life: edges[draw.Intn(len(edges))]})
		}
	}
}
