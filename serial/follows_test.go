package serial_test

import (
	"math/rand"
	"testing"

	"bollard/serial"
)

// edges are numbers at which what goes round may go wrong, and some ordinary ones.
var edges = []uint32{
	0, 1, 2, 1000, half16 - 1, half16, half16 + 1, top16 - 1, top16, top16 + 1,
	half - 1000, half - 2, half - 1, half, half + 1, half + 2, half + 1000, top - 1000, top - 2, top - 1, top,
}

// numbers are the edges, and numbers that are drawn from a fixed seed.
func numbers() []uint32 {
	draw := rand.New(rand.NewSource(2))
	out := append([]uint32(nil), edges...)
	for range 40 {
		out = append(out, draw.Uint32())
	}
	return out
}

// checkJustOne asks that just one of a and b is less, or neither of them where even is told.
func checkJustOne(t *testing.T, a, b uint32, even, up, down bool) {
	t.Helper()
	if even && (up || down) {
		t.Errorf("%d and %d: neither is less, but told is %v, %v", a, b, up, down)
	}
	if !even && up == down {
		t.Errorf("%d and %d: just one is less, but told is %v both ways round", a, b, up)
	}
}

// P2.3: just one is less than the other, but for the same number and the one half of the way round.
func TestJustOneIsLess(t *testing.T) {
	for _, a := range numbers() {
		for _, d := range numbers() {
			b := a + d
			checkJustOne(t, a, b, d == 0 || d == half, serial.Less(a, b), serial.Less(b, a))
		}
	}
}

// P2.3 of 16 bits, for all that one may be ahead of the other.
func TestJustOneIsLess16(t *testing.T) {
	for _, a := range []uint16{0, 1, 777, half16 - 1, half16, top16} {
		for d := range 1 << 16 {
			b := a + uint16(d)
			checkJustOne(t, uint32(a), uint32(b), d == 0 || d == half16, serial.Less16(a, b), serial.Less16(b, a))
		}
	}
}

// P2.3: all greater by the same, nothing changes; the greater one of two is greater by it too.
func TestGreaterByTheSame(t *testing.T) {
	for _, a := range edges {
		for _, b := range edges {
			less, dist, most := serial.Less(a, b), serial.Dist(a, b), serial.Max(a, b)
			for _, by := range numbers() {
				if serial.Less(a+by, b+by) != less || serial.Dist(a+by, b+by) != dist || serial.Max(a+by, b+by) != most+by {
					t.Errorf("%d and %d change, both greater by %d", a, b, by)
				}
			}
		}
	}
}

// P2.3 of 16 bits.
func TestGreaterByTheSame16(t *testing.T) {
	for _, x := range edges {
		for _, y := range edges {
			a, b := uint16(x), uint16(y)
			less := serial.Less16(a, b)
			for _, by := range numbers() {
				if serial.Less16(a+uint16(by), b+uint16(by)) != less {
					t.Errorf("%d and %d change, both greater by %d", a, b, uint16(by))
				}
			}
		}
	}
}

// P2.2 and P2.3: Between is what Dist says, begins and ends with its own bounds, and does not change where all are greater by the same.
func TestBetweenAsDist(t *testing.T) {
	for _, a := range edges {
		for _, b := range edges {
			if !serial.Between(a, a, b) || !serial.Between(a, b, b) {
				t.Errorf("from %d to %d a bound is left out", a, b)
			}
			for _, x := range edges {
				want := uint64(x-a) <= uint64(b-a)
				if serial.Between(a, x, b) != want {
					t.Errorf("Between(%d, %d, %d) is %v", a, x, b, !want)
				}
				for _, by := range []uint32{1, half, top} {
					if serial.Between(a+by, x+by, b+by) != want {
						t.Errorf("Between(%d, %d, %d) changes, all greater by %d", a, x, b, by)
					}
				}
			}
		}
	}
}

// P1: every call ends without a panic at all arguments, and is asked twice, as nothing may be kept.
func TestEveryArgument(t *testing.T) {
	for _, a := range numbers() {
		for _, b := range numbers() {
			less, dist, most := serial.Less(a, b), serial.Dist(a, b), serial.Max(a, b)
			less16, between := serial.Less16(uint16(a), uint16(b)), serial.Between(a, b, b-a)
			serial.Max(b, a)
			if serial.Less(a, b) != less || serial.Dist(a, b) != dist || serial.Max(a, b) != most {
				t.Errorf("%d and %d: answered otherwise when asked again", a, b)
			}
			if serial.Less16(uint16(a), uint16(b)) != less16 || serial.Between(a, b, b-a) != between {
				t.Errorf("%d and %d: answered otherwise when asked again", a, b)
			}
		}
	}
}
