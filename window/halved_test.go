package window_test

import (
	"testing"

	"bollard/window"
)

// P12.3: a state that may not be is answered as it is.
func TestHalvedBrokenStates(t *testing.T) {
	for _, s := range brokenStates() {
		checkTimeout(t, s, s)
		for _, exit := range []uint32{0, 3, 7, 9, half, top} {
			checkLost(t, s, exit, s)
			s.Recover = false
			checkLost(t, s, exit, s)
		}
		checkTimeout(t, s, s)
	}
}

// P12.3: a state at the bounds, from within, is halved.
func TestHalvedAtBounds(t *testing.T) {
	for _, s := range statesAtBounds() {
		checkTimeout(t, s, timedOut(s))
		s.Recover = false
		checkTimeout(t, s, timedOut(s))
		checkLost(t, s, 9, lost(s, 9))
		if window.Lost(s, 9) == s {
			t.Errorf("Lost leaves the state %v as it is", s)
		}
	}
	for _, c := range []struct {
		s           window.State
		thresh, mtu int
	}{
		{with(slow, "Mtu", 1), 100000, 1}, {with(slow, "Mtu", widest), 4 * widest, widest}, {with(slow, "Cwnd", 1000), 4000, 1000}, {with(slow, "Cwnd", greatest), 1 << 29, 1000}, {with(slow, "Thresh", 0), 100000, 1000}, {with(slow, "Thresh", greatest), 100000, 1000}, {with(slow, "Partial", 0), 100000, 1000}, {with(slow, "Partial", greatest), 100000, 1000},
	} {
		checkLost(t, c.s, 9, window.State{Cwnd: c.thresh, Thresh: c.thresh, Mtu: c.mtu, Recover: true, Exit: 9})
		checkTimeout(t, c.s, window.State{Cwnd: c.mtu, Thresh: c.thresh, Mtu: c.mtu})
	}
}

// P12.3: Thresh is half of Cwnd, rounded down, or four Mtu where that is more; a loss leaves Cwnd that, a timeout one Mtu.
func TestHalved(t *testing.T) {
	for _, c := range []struct{ cwnd, mtu, thresh int }{
		{1000, 1000, 4000}, {3000, 1000, 4000}, {4000, 1000, 4000}, {7998, 1000, 4000}, {7999, 1000, 4000}, {8000, 1000, 4000}, {8001, 1000, 4000}, {8002, 1000, 4001}, {8003, 1000, 4001}, {8004, 1000, 4002}, {9000, 1000, 4500}, {20000, 1000, 10000}, {20001, 1000, 10000},
		{1, 1, 4}, {7, 1, 4}, {8, 1, 4}, {9, 1, 4}, {10, 1, 5}, {3600, 1200, 4800}, {9600, 1200, 4800}, {9602, 1200, 4801},
		{widest, widest, 262144}, {8*widest - 1, widest, 262144}, {8 * widest, widest, 262144}, {8*widest + 1, widest, 262144}, {8*widest + 2, widest, 262145},
		{greatest, widest, 1 << 29}, {greatest - 1, widest, 1<<29 - 1}, {greatest - 2, widest, 1<<29 - 1}, {greatest - 3, 1, 1<<29 - 2}, {greatest, 1, 1 << 29},
	} {
		for _, thresh := range []int{0, 1, c.cwnd, greatest} {
			for _, partial := range []int{0, 1, c.cwnd, greatest} {
				s := window.State{Cwnd: c.cwnd, Thresh: thresh, Partial: partial, Mtu: c.mtu, Exit: 3}
				checkLost(t, s, 9, window.State{Cwnd: c.thresh, Thresh: c.thresh, Partial: 0, Mtu: c.mtu, Recover: true, Exit: 9})
				want := window.State{Cwnd: c.mtu, Thresh: c.thresh, Partial: 0, Mtu: c.mtu, Recover: false, Exit: 0}
				checkTimeout(t, s, want)
				s.Recover = true
				checkTimeout(t, s, want)
			}
		}
	}
}

// P12.3: a loss sets Recover, and Exit to what is handed in, whatever stood there.
func TestLostExit(t *testing.T) {
	for _, was := range []uint32{0, 7, half, top} {
		for _, exit := range []uint32{0, 1, 7, half - 1, half, half + 1, top} {
			s := window.State{Cwnd: 20000, Thresh: greatest, Partial: 5, Mtu: 1000, Exit: was}
			checkLost(t, s, exit, window.State{Cwnd: 10000, Thresh: 10000, Mtu: 1000, Recover: true, Exit: exit})
		}
	}
}

// P12.3: a loss where Recover leaves a state as it is, whatever is handed in.
func TestLostTwice(t *testing.T) {
	for _, s := range []window.State{recovering, {Cwnd: 20000, Thresh: greatest, Partial: 5, Mtu: 1000, Recover: true}, window.Lost(slow, 9), {Cwnd: greatest, Partial: greatest, Mtu: 1, Recover: true, Exit: top}} {
		for _, exit := range []uint32{0, 6, 7, 8, 9, 10, half, top} {
			checkLost(t, s, exit, s)
		}
	}
}

// P12.3: a timeout makes Recover false and Exit 0, whatever they were, and a loss behind it counts.
func TestTimeoutEndsRecover(t *testing.T) {
	want := window.State{Cwnd: 1000, Thresh: 100000, Mtu: 1000}
	for _, exit := range []uint32{0, 1, 7, half, top} {
		for _, is := range []bool{false, true} {
			s := window.State{Cwnd: 200000, Thresh: 150000, Partial: 70, Mtu: 1000, Recover: is, Exit: exit}
			checkTimeout(t, s, want)
		}
	}
	checkLost(t, want, 5, window.State{Cwnd: 4000, Thresh: 4000, Mtu: 1000, Recover: true, Exit: 5})
	checkTimeout(t, want, window.State{Cwnd: 1000, Thresh: 4000, Mtu: 1000})
}
