package cookie_test

import (
	"math"
	"math/rand"
	"testing"

	"bollard/api"
	"bollard/cookie"
)

// madeAt are the octets of the ordinary state, made at a time, for some while.
func madeAt(made, life int) []byte {
	s := ordinary()
	s.Made, s.Life = made, life
	return sealed(rising(), laid(s))
}

// P9.3: just ahead of Made, at Made, within, at Made and Life together, and just behind that.
func TestCheck(t *testing.T) {
	times := []int{0, 1, 2, 1000, 1<<31 - 1, 1 << 31, 1<<32 - 1, 1 << 32, 1 << 47, most - 1, most}
	for _, made := range times {
		for _, life := range times {
			b := madeAt(made, life)
			checkCheck(t, "just ahead of Made", rising(), b, made-1, api.ErrStale)
			checkCheck(t, "at Made", rising(), b, made, api.OK)
			checkCheck(t, "within", rising(), b, made+life/2, api.OK)
			checkCheck(t, "at the end", rising(), b, made+life, api.OK)
			checkCheck(t, "just behind the end", rising(), b, made+life+1, api.ErrStale)
			checkCheck(t, "at the least time", rising(), b, math.MinInt, api.ErrStale)
			checkCheck(t, "at the greatest time", rising(), b, math.MaxInt, api.ErrStale)
			checkCheck(t, "at a time below 0", rising(), b, -made-1, api.ErrStale)
			checkCheck(t, "as far behind the end as goes", rising(), b, math.MaxInt-life, api.ErrStale)
			checkCheck(t, "as far ahead of Made as goes", rising(), b, math.MinInt+made, api.ErrStale)
		}
	}
}

// P9.3: with Life 0 it is fresh at Made alone.
func TestCheckLifeNone(t *testing.T) {
	for _, made := range []int{0, 5, most} {
		for now := made - 2; now <= made+2; now++ {
			want := api.ErrStale
			if now == made {
				want = api.OK
			}
			checkCheck(t, "Life 0", rising(), madeAt(made, 0), now, want)
		}
	}
}

// P9.3: both at their greatest.
func TestCheckGreatest(t *testing.T) {
	b := madeAt(most, most)
	for now, want := range map[int]api.Errno{
		math.MinInt: api.ErrStale, -1: api.ErrStale, 0: api.ErrStale, most - 1: api.ErrStale,
		most: api.OK, most + 1: api.OK, 2*most - 1: api.OK, 2 * most: api.OK,
		2*most + 1: api.ErrStale, 3 * most: api.ErrStale, math.MaxInt: api.ErrStale,
	} {
		checkCheck(t, "both at their greatest", rising(), b, now, want)
	}
}

// P9.3: Decode's error is told ahead of ErrStale, and when it is not stale too.
func TestCheckDecodesFirst(t *testing.T) {
	for _, f := range faults {
		for _, now := range edges {
			checkCheck(t, f.name, rising(), f.b, now, f.want)
		}
	}
	b := madeAt(1000, 10)
	for _, now := range []int{math.MinInt, 999, 1000, 1010, 1011, math.MaxInt} {
		for _, key := range badKeys() {
			checkCheck(t, "a key that is none", key, b, now, api.ErrArg)
			checkCheck(t, "a key that is none, nil", key, nil, now, api.ErrArg)
		}
		checkCheck(t, "nil", rising(), nil, now, api.ErrShort)
		checkCheck(t, "too short", rising(), b[:59], now, api.ErrShort)
		checkCheck(t, "too long", rising(), append(b[:60:60], 0), now, api.ErrForm)
		checkCheck(t, "another mark", rising(), turned(b, 59, 3), now, api.ErrForm)
		checkCheck(t, "no code", rising(), turned(b, 48, 1), now, api.ErrCookie)
		checkCheck(t, "another key", turned(rising(), 0, 1), b, now, api.ErrCookie)
		for at := range 48 {
			checkCheck(t, "an octet that is another one", rising(), turned(b, at, 1), now, api.ErrCookie)
		}
		for _, great := range []uint64{most + 1, 1 << 63, 1<<64 - 1} {
			checkCheck(t, "Made too great", rising(), sealed(rising(), timed(great, 10)), now, api.ErrForm)
			checkCheck(t, "Life too great", rising(), sealed(rising(), timed(1000, great)), now, api.ErrForm)
		}
	}
}

// P9.3: rows drawn from a fixed seed.
func TestCheckRows(t *testing.T) {
	draw := rand.New(rand.NewSource(94))
	told := map[api.Errno]int{}
	for range 5000 {
		s := drawnState(draw)
		b := sealed(rising(), laid(s))
		now := s.Made + draw.Intn(2*s.Life+3) - s.Life/2
		if draw.Intn(4) == 0 {
			b = turned(b, draw.Intn(60), byte(1+draw.Intn(255)))
		}
		_, err := wordOfCheck(rising(), b, now)
		checkCheck(t, "a row", rising(), b, now, err)
		told[err]++
	}
	for _, err := range []api.Errno{api.OK, api.ErrStale, api.ErrCookie, api.ErrForm} {
		if told[err] < 50 {
			t.Errorf("the rows tell %v only %d times", err, told[err])
		}
	}
}

// The chapter's examples, as they stand there.
func TestExamples(t *testing.T) {
	b, ok := cookie.Encode(rising(), cookie.State{})
	if !ok || len(b) != 60 {
		t.Fatalf("a state that is all 0: %v, %v", b, ok)
	}
	for i, x := range b[:48] {
		if x != 0 {
			t.Errorf("a state that is all 0: octet %d is %d", i, x)
		}
	}
	checkCheck(t, "now below Made", rising(), madeAt(5, 10), 4, api.ErrStale)
	checkCheck(t, "now below Made, of a state that is all 0", rising(), b, -1, api.ErrStale)
}
