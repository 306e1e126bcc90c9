package rto_test

import (
	"math"
	"math/rand"
	"testing"

	"bollard/rto"
)

const (
	longestWay = 1 << 30
	greatest   = 1 << 31
	least      = math.MinInt
	most       = math.MaxInt
)

// edges are numbers at which something begins or ends, and some ordinary ones.
var edges = []int{least, least + 1, -greatest, -2, -1, 0, 1, 2, 3, 7, 8, 499, 500, 501, 999, 1000, 1001, 3000, 29999, 30000, 30001, 59999, 60000, 60001, longestWay - 1, longestWay, longestWay + 1, greatest - 1, greatest, greatest + 1, 1 << 32, most - 1, most}

// broken are those of the edges that no number of a state may be.
var broken = []int{least, least + 1, -greatest, -2, -1, greatest + 1, 1 << 32, most - 1, most}

func inside(n, from, to int) bool { return n >= from && n <= to }

// down is a share of a number that is not below 0, rounded down.
func down(n, parts int) int { return (n - n%parts) / parts }

// held is a wait within what may be waited.
func held(wait int) int {
	if wait < 1000 {
		return 1000
	}
	if wait > 60000 {
		return 60000
	}
	return wait
}

// sampled says the words of P11.2 plainly.
func sampled(s rto.State, r int) rto.State {
	if !inside(r, 0, longestWay) || !inside(s.Smooth, 0, greatest) || !inside(s.Var, 0, greatest) || !inside(s.Wait, 0, greatest) {
		return s
	}
	after := rto.State{Known: true}
	if s.Known {
		d := s.Smooth - r
		if d < 0 {
			d = -d
		}
		after.Var = down(s.Var+s.Var+s.Var+d, 4)
		after.Smooth = down(8*s.Smooth-s.Smooth+r, 8)
	} else {
		after.Smooth = r
		after.Var = down(r, 2)
	}
	if after.Var == 0 {
		after.Wait = held(after.Smooth + 1)
	} else {
		after.Wait = held(after.Smooth + after.Var + after.Var + after.Var + after.Var)
	}
	return after
}

// backed says the words of P11.3 plainly.
func backed(s rto.State) rto.State {
	if !inside(s.Wait, 0, greatest) {
		return s
	}
	return rto.State{Smooth: s.Smooth, Var: s.Var, Wait: held(s.Wait + s.Wait), Known: s.Known}
}

// checkSample asks for what a sample makes of a state, of the words too, and that the state that was handed in is as it was.
func checkSample(t *testing.T, s rto.State, r int, want rto.State) {
	t.Helper()
	if got := sampled(s, r); got != want {
		t.Errorf("the words tell %v of Sample(%v, %d), want %v", got, s, r, want)
	}
	before := s
	if got := rto.Sample(s, r); got != want {
		t.Errorf("Sample(%v, %d) is %v, want %v", s, r, got, want)
	}
	if s != before {
		t.Errorf("Sample made %v of the state %v that was handed in", s, before)
	}
}

// checkBack asks for what Back makes of a state, as checkSample does.
func checkBack(t *testing.T, s, want rto.State) {
	t.Helper()
	if got := backed(s); got != want {
		t.Errorf("the words tell %v of Back(%v), want %v", got, s, want)
	}
	before := s
	if got := rto.Back(s); got != want {
		t.Errorf("Back(%v) is %v, want %v", s, got, want)
	}
	if s != before {
		t.Errorf("Back made %v of the state %v that was handed in", s, before)
	}
}

// known is a state that has a sample behind it.
func known(smooth, variance, wait int) rto.State {
	return rto.State{Smooth: smooth, Var: variance, Wait: wait, Known: true}
}

// withOne are states that may be but for one number, which is handed in, each with the name of that number.
func withOne(n int) map[string]rto.State {
	out := map[string]rto.State{}
	for name, s := range map[string]rto.State{"known": known(800, 400, 2400), "unknown": {Smooth: 800, Var: 400, Wait: 2400}, "new": rto.Start()} {
		smooth, variance, wait := s, s, s
		smooth.Smooth, variance.Var, wait.Wait = n, n, n
		out[name+" Smooth"], out[name+" Var"], out[name+" Wait"] = smooth, variance, wait
	}
	return out
}

// drawNumber draws a number that may stand in a state: small, of some bits, or near the greatest one.
func drawNumber(draw *rand.Rand, top int) int {
	switch draw.Intn(4) {
	case 0:
		return draw.Intn(20)
	case 1:
		return draw.Intn(70000)
	case 2:
		return draw.Intn(top + 1)
	}
	return top - draw.Intn(20)
}
