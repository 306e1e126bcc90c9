package window_test

import (
	"testing"

	"bollard/window"
)

// P12.2: a state that may not be is answered as it is.
func TestAckedBrokenStates(t *testing.T) {
	for _, s := range brokenStates() {
		for _, n := range []int{0, 1, 100, 1000, greatest} {
			for _, full := range []bool{false, true} {
				for _, cum := range []uint32{0, 6, 7, 8, half} {
					checkAcked(t, s, n, full, cum, s)
				}
			}
		}
	}
}

// P12.2: a state at the bounds, from within, takes in what came.
func TestAckedAtBounds(t *testing.T) {
	for _, s := range statesAtBounds() {
		for _, n := range []int{1, 100, 1000, greatest} {
			want := acked(s, n, true, s.Exit)
			checkAcked(t, s, n, true, s.Exit, want)
			if want == s && s.Cwnd != greatest {
				t.Errorf("the words tell nothing of Acked(%v, %d, true, %d)", s, n, s.Exit)
			}
		}
	}
	for _, c := range []struct{ s, want window.State }{
		{with(slow, "Mtu", 1), window.State{Cwnd: 200001, Thresh: greatest, Partial: 5, Mtu: 1, Exit: 3}},
		{with(slow, "Mtu", widest), window.State{Cwnd: 200100, Thresh: greatest, Partial: 5, Mtu: widest, Exit: 3}},
		{with(slow, "Cwnd", 1000), window.State{Cwnd: 1100, Thresh: greatest, Partial: 5, Mtu: 1000, Exit: 3}},
		{with(slow, "Cwnd", greatest), window.State{Cwnd: greatest, Thresh: greatest, Partial: 5, Mtu: 1000, Exit: 3}},
		{with(slow, "Thresh", 0), window.State{Cwnd: 200000, Thresh: 0, Partial: 105, Mtu: 1000, Exit: 3}},
		{with(slow, "Partial", 0), window.State{Cwnd: 200100, Thresh: greatest, Partial: 0, Mtu: 1000, Exit: 3}},
		{with(slow, "Partial", greatest), window.State{Cwnd: 200100, Thresh: greatest, Partial: greatest, Mtu: 1000, Exit: 3}},
		{with(avoid, "Partial", greatest), window.State{Cwnd: 201000, Thresh: 3000, Partial: greatest - 200000, Mtu: 1000, Exit: 3}},
	} {
		checkAcked(t, c.s, 100, true, 0, c.want)
	}
}

// P12.2: a count that is not 0 to 2^30 leaves a state as it is, also where Exit has come; one at the ends of that counts.
func TestAckedCounts(t *testing.T) {
	for _, n := range []int{least, least + 1, -greatest, -2, -1, greatest + 1, greatest + 2, 1 << 31, 1<<32 + 1, most - 1, most} {
		for _, s := range []window.State{slow, avoid, recovering, window.Start(1200)} {
			for _, full := range []bool{false, true} {
				checkAcked(t, s, n, full, 7, s)
			}
		}
	}
	for _, c := range []struct{ n, slow, avoid, partial int }{
		{0, 200000, 200000, 199900}, {1, 200001, 200000, 199901}, {99, 200099, 200000, 199999}, {100, 200100, 201000, 0},
		{greatest - 1, 201000, 201000, greatest - 200000}, {greatest, 201000, 201000, greatest - 200000},
	} {
		checkAcked(t, slow, c.n, true, 0, with(slow, "Cwnd", c.slow))
		checkAcked(t, avoid, c.n, true, 0, with(with(avoid, "Cwnd", c.avoid), "Partial", c.partial))
	}
}

// P12.2: where Recover, it is false as soon as the floor is Exit or above it, going round; two that are half of the way round apart do not count.
func TestAckedRecover(t *testing.T) {
	for _, c := range []struct {
		exit, cum uint32
		over      bool
	}{
		{7, 7, true}, {7, 8, true}, {7, 1000, true}, {7, 6, false}, {7, 0, false}, {7, top, false},
		{0, 0, true}, {0, 1, true}, {0, top, false}, {0, half - 1, true}, {0, half, false}, {0, half + 1, false},
		{7, 7 + half - 1, true}, {7, 7 + half, false}, {7, 7 + half + 1, false},
		{top, top, true}, {top, 0, true}, {top, 5, true}, {top, top - 1, false}, {top - 3, 2, true}, {2, top - 3, false},
		{top, half - 2, true}, {top, half - 1, false}, {top, half, false},
		{half, half, true}, {half, half + 1, true}, {half, top, true}, {half, 0, false}, {half, 1, false}, {half, half - 1, false},
		{half + 5, 4, true}, {half + 5, 5, false}, {half + 5, 6, false},
	} {
		for _, base := range []window.State{recovering, {Cwnd: 3600, Thresh: greatest, Mtu: 1200, Recover: true}, {Cwnd: 4000, Thresh: 3000, Partial: 3900, Mtu: 1000, Recover: true}, {Cwnd: greatest, Partial: greatest, Mtu: widest, Recover: true}} {
			base.Exit = c.exit
			want := base
			want.Recover = !c.over
			for _, n := range []int{0, 1, 100, 5000, greatest} {
				for _, full := range []bool{false, true} {
					checkAcked(t, base, n, full, c.cum, want)
				}
			}
		}
	}
}

// P12.2: with nothing that came, or with a window that was not full, nothing changes, also where Partial is as much as Cwnd.
func TestAckedNothing(t *testing.T) {
	for _, s := range []window.State{slow, avoid, window.Start(1200), with(avoid, "Partial", 200000), with(avoid, "Partial", greatest), with(slow, "Cwnd", greatest)} {
		for _, cum := range []uint32{0, 3, 4, half + 3, top} {
			checkAcked(t, s, 0, true, cum, s)
			for _, n := range []int{0, 1, 1000, 200000, greatest} {
				checkAcked(t, s, n, false, cum, s)
			}
		}
	}
}

// P12.2: with Cwnd at most Thresh it is Cwnd that grows, just above it Partial.
func TestAckedAroundThresh(t *testing.T) {
	for _, c := range []struct {
		cwnd, thresh, want, partial int
	}{
		{4000, 4001, 4500, 40}, {4000, 4000, 4500, 40}, {4000, 3999, 4000, 540}, {4000, 0, 4000, 540}, {4000, greatest, 4500, 40}, {1000, 1000, 1500, 40}, {1000, 999, 1000, 540},
		{greatest - 600, greatest - 600, greatest - 100, 40}, {greatest - 600, greatest - 601, greatest - 600, 540},
	} {
		s := window.State{Cwnd: c.cwnd, Thresh: c.thresh, Partial: 40, Mtu: 1000, Exit: 9}
		checkAcked(t, s, 500, true, 1, window.State{Cwnd: c.want, Thresh: c.thresh, Partial: c.partial, Mtu: 1000, Exit: 9})
	}
}

// P12.2: Cwnd grows by the least of what came and Mtu, up to 2^30; Partial stays.
func TestAckedSlow(t *testing.T) {
	for _, c := range []struct{ cwnd, mtu, n, want int }{
		{4000, 1000, 1, 4001}, {4000, 1000, 999, 4999}, {4000, 1000, 1000, 5000}, {4000, 1000, 1001, 5000}, {4000, 1000, 4000, 5000}, {4000, 1000, greatest, 5000},
		{1, 1, 1, 2}, {1, 1, 2, 2}, {widest, widest, widest - 1, 2*widest - 1}, {widest, widest, widest, 2 * widest}, {widest, widest, widest + 1, 2 * widest},
		{greatest - 1001, 1000, 1000, greatest - 1}, {greatest - 1000, 1000, 1000, greatest}, {greatest - 999, 1000, 1000, greatest}, {greatest - 999, 1000, 998, greatest - 1}, {greatest - 999, 1000, 999, greatest},
		{greatest - 1, 1000, 1, greatest}, {greatest - 1, 1000, 2, greatest}, {greatest - 1, widest, greatest, greatest}, {greatest, 1000, 1, greatest}, {greatest, widest, greatest, greatest},
	} {
		for _, partial := range []int{0, 17, c.cwnd, greatest} {
			s := window.State{Cwnd: c.cwnd, Thresh: greatest, Partial: partial, Mtu: c.mtu, Exit: 9}
			checkAcked(t, s, c.n, true, 1, with(s, "Cwnd", c.want))
		}
	}
}

// P12.2: above Thresh Partial grows by what came; with as much as Cwnd there it is less by the Cwnd of before, once, and Cwnd grows by Mtu.
func TestAckedAvoid(t *testing.T) {
	for _, c := range []struct{ cwnd, partial, mtu, n, want, left int }{
		{4000, 0, 1000, 1, 4000, 1}, {4000, 0, 1000, 3999, 4000, 3999}, {4000, 0, 1000, 4000, 5000, 0}, {4000, 0, 1000, 4001, 5000, 1},
		{4000, 3500, 1000, 499, 4000, 3999}, {4000, 3500, 1000, 500, 5000, 0}, {4000, 3500, 1000, 501, 5000, 1}, {4000, 3999, 1000, 1, 5000, 0}, {4000, 3998, 1000, 1, 4000, 3999},
		{4000, 3500, 1000, 8500, 5000, 8000}, {4000, 9000, 1000, 1, 5000, 5001}, {4000, 4000, 1000, 1, 5000, 1},
		{1, 0, 1, 1, 2, 0}, {1, 0, 1, 7, 2, 6}, {widest, widest - 2, widest, 1, widest, widest - 1}, {widest, widest - 1, widest, 1, 2 * widest, 0},
	} {
		s := window.State{Cwnd: c.cwnd, Thresh: c.cwnd - 1, Partial: c.partial, Mtu: c.mtu, Exit: 9}
		checkAcked(t, s, c.n, true, 1, with(with(s, "Cwnd", c.want), "Partial", c.left))
	}
}

// P12.2: above Thresh neither Partial nor Cwnd grows above 2^30.
func TestAckedAvoidAtTheTop(t *testing.T) {
	for _, c := range []struct{ cwnd, partial, mtu, n, want, left int }{
		{4000, greatest - 2, 1000, 1, 5000, greatest - 4001}, {4000, greatest - 2, 1000, 2, 5000, greatest - 4000}, {4000, greatest - 2, 1000, 3, 5000, greatest - 4000}, {4000, greatest, 1000, 1, 5000, greatest - 4000}, {4000, greatest, 1000, greatest, 5000, greatest - 4000}, {4000, 0, 1000, greatest, 5000, greatest - 4000}, {4000, 1, 1000, greatest, 5000, greatest - 4000}, {4000, 1, 1000, greatest - 1, 5000, greatest - 4000},
		{greatest - 1001, greatest, 1000, 1, greatest - 1, 1001}, {greatest - 1000, greatest, 1000, 1, greatest, 1000}, {greatest - 999, greatest, 1000, 1, greatest, 999}, {greatest - 1, greatest - 2, 1000, 1, greatest, 0}, {greatest - 1, greatest - 2, 1000, 2, greatest, 1}, {greatest - 1, greatest - 2, 1000, 3, greatest, 1}, {greatest - 1, greatest - 3, 1000, 1, greatest - 1, greatest - 2},
		{greatest, 0, 1000, 1, greatest, 1}, {greatest, greatest - 2, 1000, 1, greatest, greatest - 1}, {greatest, greatest - 2, 1000, 2, greatest, 0}, {greatest, greatest - 2, 1000, 3, greatest, 0}, {greatest, greatest, widest, greatest, greatest, 0}, {greatest, 0, widest, greatest, greatest, 0},
	} {
		s := window.State{Cwnd: c.cwnd, Thresh: c.cwnd - 1, Partial: c.partial, Mtu: c.mtu, Exit: 9}
		checkAcked(t, s, c.n, true, 1, with(with(s, "Cwnd", c.want), "Partial", c.left))
	}
}

// P12.2: where not Recover, the floor does not matter.
func TestAckedFloor(t *testing.T) {
	for _, cum := range []uint32{0, 1, 2, 3, 4, half - 1, half, half + 1, half + 3, top} {
		checkAcked(t, slow, 100, true, cum, with(slow, "Cwnd", 200100))
		checkAcked(t, avoid, 100, true, cum, with(with(avoid, "Cwnd", 201000), "Partial", 0))
	}
}
