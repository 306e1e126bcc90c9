package window_test

import (
	"math"
	"math/rand"
	"testing"

	"bollard/window"
)

const (
	widest   = 65536
	greatest = 1 << 30
	half     = uint32(1) << 31
	top      = ^uint32(0)
	least    = math.MinInt
	most     = math.MaxInt
)

// edges are numbers at which something begins or ends, and some ordinary ones.
var edges = []int{least, least + 1, -greatest, -widest, -2, -1, 0, 1, 2, 3, 999, 1000, 1199, 1200, 1201, 4800, widest - 1, widest, widest + 1, greatest - 1, greatest, greatest + 1, 1 << 31, 1 << 32, most - 1, most}

func inside(n, from, to int) bool { return n >= from && n <= to }

// mayBe says plainly when a state may be.
func mayBe(s window.State) bool {
	return inside(s.Mtu, 1, widest) && inside(s.Cwnd, s.Mtu, greatest) && inside(s.Thresh, 0, greatest) && inside(s.Partial, 0, greatest)
}

func lesser(a, b int) int {
	if a < b {
		return a
	}
	return b
}

func greater(a, b int) int {
	if a > b {
		return a
	}
	return b
}

// started says the words of P12.1 plainly.
func started(mtu int) window.State {
	if !inside(mtu, 1, widest) {
		mtu = 1200
	}
	return window.State{Cwnd: mtu + mtu + mtu, Thresh: greatest, Mtu: mtu}
}

// reached tells whether a floor is a number, or lies less than half of the way round behind it.
func reached(exit, cum uint32) bool {
	ahead := (int64(cum) - int64(exit) + 1<<32) % (1 << 32)
	return ahead < 1<<31
}

// acked says the words of P12.2 plainly.
func acked(s window.State, n int, full bool, cum uint32) window.State {
	if !mayBe(s) || !inside(n, 0, greatest) {
		return s
	}
	if s.Recover {
		return window.State{Cwnd: s.Cwnd, Thresh: s.Thresh, Partial: s.Partial, Mtu: s.Mtu, Recover: !reached(s.Exit, cum), Exit: s.Exit}
	}
	if n == 0 || !full {
		return s
	}
	if s.Cwnd <= s.Thresh {
		return window.State{Cwnd: lesser(s.Cwnd+lesser(n, s.Mtu), greatest), Thresh: s.Thresh, Partial: s.Partial, Mtu: s.Mtu, Exit: s.Exit}
	}
	partial := lesser(s.Partial+n, greatest)
	if partial < s.Cwnd {
		return window.State{Cwnd: s.Cwnd, Thresh: s.Thresh, Partial: partial, Mtu: s.Mtu, Exit: s.Exit}
	}
	return window.State{Cwnd: lesser(s.Cwnd+s.Mtu, greatest), Thresh: s.Thresh, Partial: partial - s.Cwnd, Mtu: s.Mtu, Exit: s.Exit}
}

// halved says plainly what Thresh becomes by P12.3.
func halved(s window.State) int {
	return lesser(greater((s.Cwnd-s.Cwnd%2)/2, s.Mtu+s.Mtu+s.Mtu+s.Mtu), greatest)
}

// lost says the words of P12.3 plainly.
func lost(s window.State, exit uint32) window.State {
	if !mayBe(s) || s.Recover {
		return s
	}
	return window.State{Cwnd: halved(s), Thresh: halved(s), Mtu: s.Mtu, Recover: true, Exit: exit}
}

// timedOut says the words of P12.3 plainly.
func timedOut(s window.State) window.State {
	if !mayBe(s) {
		return s
	}
	return window.State{Cwnd: s.Mtu, Thresh: halved(s), Mtu: s.Mtu}
}

// room says the words of P12.4 plainly.
func room(s window.State, flying, peer int) int {
	if !mayBe(s) || flying < 0 || peer < 0 {
		return 0
	}
	if flying == 0 {
		return greater(lesser(s.Cwnd, peer), s.Mtu)
	}
	if flying >= s.Cwnd {
		return 0
	}
	return lesser(s.Cwnd-flying, peer)
}

// checkAcked asks for what Acked makes of a state, of the words too, and that the state that was handed in is as it was.
func checkAcked(t *testing.T, s window.State, n int, full bool, cum uint32, want window.State) {
	t.Helper()
	if got := acked(s, n, full, cum); got != want {
		t.Errorf("the words tell %v of Acked(%v, %d, %v, %d), want %v", got, s, n, full, cum, want)
	}
	before := s
	if got := window.Acked(s, n, full, cum); got != want {
		t.Errorf("Acked(%v, %d, %v, %d) is %v, want %v", s, n, full, cum, got, want)
	}
	if s != before {
		t.Errorf("Acked made %v of the state %v that was handed in", s, before)
	}
}

// checkLost asks for what Lost makes of a state, as checkAcked does.
func checkLost(t *testing.T, s window.State, exit uint32, want window.State) {
	t.Helper()
	if got := lost(s, exit); got != want {
		t.Errorf("the words tell %v of Lost(%v, %d), want %v", got, s, exit, want)
	}
	before := s
	if got := window.Lost(s, exit); got != want {
		t.Errorf("Lost(%v, %d) is %v, want %v", s, exit, got, want)
	}
	if s != before {
		t.Errorf("Lost made %v of the state %v that was handed in", s, before)
	}
}

// checkTimeout asks for what Timeout makes of a state, as checkAcked does.
func checkTimeout(t *testing.T, s, want window.State) {
	t.Helper()
	if got := timedOut(s); got != want {
		t.Errorf("the words tell %v of Timeout(%v), want %v", got, s, want)
	}
	before := s
	if got := window.Timeout(s); got != want {
		t.Errorf("Timeout(%v) is %v, want %v", s, got, want)
	}
	if s != before {
		t.Errorf("Timeout made %v of the state %v that was handed in", s, before)
	}
}

// checkRoom asks for the room that a state leaves, as checkAcked does.
func checkRoom(t *testing.T, s window.State, flying, peer, want int) {
	t.Helper()
	if got := room(s, flying, peer); got != want {
		t.Errorf("the words tell %d of Room(%v, %d, %d), want %d", got, s, flying, peer, want)
	}
	before := s
	if got := window.Room(s, flying, peer); got != want {
		t.Errorf("Room(%v, %d, %d) is %d, want %d", s, flying, peer, got, want)
	}
	if s != before {
		t.Errorf("Room made %v of the state %v that was handed in", s, before)
	}
}

// The ways that Acked may go, each in a state that any of the calls would change.
var (
	slow       = window.State{Cwnd: 200000, Thresh: greatest, Partial: 5, Mtu: 1000, Exit: 3}
	avoid      = window.State{Cwnd: 200000, Thresh: 3000, Partial: 199900, Mtu: 1000, Exit: 3}
	recovering = window.State{Cwnd: 200000, Thresh: 150000, Partial: 70, Mtu: 1000, Recover: true, Exit: 7}
)

// with is a state with another number in one of its places.
func with(s window.State, place string, n int) window.State {
	switch place {
	case "Cwnd":
		s.Cwnd = n
	case "Thresh":
		s.Thresh = n
	case "Partial":
		s.Partial = n
	case "Mtu":
		s.Mtu = n
	}
	return s
}

// brokenStates are states that may not be, each by one bound alone.
func brokenStates() []window.State {
	var out []window.State
	for _, s := range []window.State{slow, avoid, recovering} {
		for place, bad := range map[string][]int{
			"Mtu":     {least, least + 1, -1, 0, widest + 1, most - 1, most},
			"Cwnd":    {least, least + 1, -1, 0, 1, s.Mtu - 1, greatest + 1, 1 << 31, most - 1, most},
			"Thresh":  {least, least + 1, -2, -1, greatest + 1, 1 << 31, most - 1, most},
			"Partial": {least, least + 1, -2, -1, greatest + 1, 1 << 31, most - 1, most},
		} {
			for _, n := range bad {
				out = append(out, with(s, place, n))
			}
		}
	}
	return out
}

// statesAtBounds are states that may be, with a number at one of its bounds, or just within.
func statesAtBounds() []window.State {
	var out []window.State
	for _, s := range []window.State{slow, avoid, recovering} {
		for place, good := range map[string][]int{
			"Mtu":     {1, 2, widest - 1, widest},
			"Cwnd":    {s.Mtu, s.Mtu + 1, greatest - 1, greatest},
			"Thresh":  {0, 1, greatest - 1, greatest},
			"Partial": {0, 1, greatest - 1, greatest},
		} {
			for _, n := range good {
				out = append(out, with(s, place, n))
			}
		}
	}
	return append(out,
		window.State{Cwnd: 1, Mtu: 1}, window.State{Cwnd: widest, Mtu: widest},
		window.State{Cwnd: greatest, Thresh: greatest, Partial: greatest, Mtu: widest},
		window.State{Cwnd: 1, Thresh: greatest, Partial: greatest, Mtu: 1, Recover: true, Exit: top})
}

// drawNear is a number from least to most: any, or one near to what is handed in.
func drawNear(draw *rand.Rand, from, to int, near ...int) int {
	n := from + draw.Intn(to-from+1)
	if draw.Intn(3) > 0 {
		n = near[draw.Intn(len(near))] + draw.Intn(5) - 2
	}
	return greater(from, lesser(n, to))
}

// drawState is a state that may be.
func drawState(draw *rand.Rand) window.State {
	mtu := drawNear(draw, 1, widest, 1, 1200, widest)
	cwnd := drawNear(draw, mtu, greatest, mtu, 3*mtu, 4*mtu, 8*mtu, greatest-mtu, greatest)
	return window.State{
		Cwnd:    cwnd,
		Thresh:  drawNear(draw, 0, greatest, 0, cwnd, cwnd+mtu, greatest),
		Partial: drawNear(draw, 0, greatest, 0, cwnd, cwnd-mtu, greatest),
		Mtu:     mtu,
		Recover: draw.Intn(4) == 0,
		Exit:    draw.Uint32(),
	}
}

// drawFloor is a floor near to a number, near to half of the way round from it, or any.
func drawFloor(draw *rand.Rand, exit uint32) uint32 {
	switch draw.Intn(3) {
	case 0:
		return exit + uint32(draw.Intn(7)) - 3
	case 1:
		return exit + half + uint32(draw.Intn(7)) - 3
	}
	return draw.Uint32()
}
