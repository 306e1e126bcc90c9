package rto_test

import (
	"testing"

	"bollard/rto"
)

// P11.1: a start waits 3000, and nothing else is set.
func TestStart(t *testing.T) {
	if got, want := rto.Start(), (rto.State{Smooth: 0, Var: 0, Wait: 3000, Known: false}); got != want {
		t.Errorf("Start is %v, want %v", got, want)
	}
	changed := rto.Start()
	changed.Wait, changed.Known = 7, true
	if got := rto.Start(); got != (rto.State{Wait: 3000}) {
		t.Errorf("Start is %v, asked again", got)
	}
}

// P11.2: a sample that is not 0 to 2^30 leaves a state as it is, and one at the ends of that counts.
func TestSampleBounds(t *testing.T) {
	for _, c := range []struct {
		r    int
		want rto.State
	}{
		{0, known(0, 0, 1000)}, {1, known(1, 0, 1000)}, {longestWay - 1, known(longestWay-1, 1<<29-1, 60000)}, {longestWay, known(longestWay, 1<<29, 60000)},
	} {
		checkSample(t, rto.Start(), c.r, c.want)
	}
	for _, c := range []struct {
		r    int
		want rto.State
	}{
		{0, known(700, 500, 2700)}, {1, known(700, 499, 2696)}, {longestWay - 1, known(134218427, 268435555, 60000)}, {longestWay, known(134218428, 268435556, 60000)},
	} {
		checkSample(t, known(800, 400, 2400), c.r, c.want)
	}
	for _, r := range []int{least, least + 1, -longestWay, -2, -1, longestWay + 1, longestWay + 2, greatest, 1 << 32, most - 1, most} {
		for _, s := range []rto.State{rto.Start(), {}, known(800, 400, 2400), known(0, 0, 0), known(5, 6, 7), {Smooth: 5, Var: 6, Wait: 7}, known(greatest, greatest, greatest), known(-1, -1, -1)} {
			checkSample(t, s, r, s)
		}
	}
}

// P11.2: a state one of whose numbers is not 0 to 2^31 is answered as it is, known or not.
func TestSampleBrokenStates(t *testing.T) {
	for _, n := range broken {
		for name, s := range withOne(n) {
			for _, r := range []int{0, 1, 100, 800, 5000, longestWay} {
				if got := rto.Sample(s, r); got != s {
					t.Errorf("%s: Sample(%v, %d) is %v", name, s, r, got)
				}
				checkSample(t, s, r, s)
			}
		}
	}
}

// P11.2: a state one of whose numbers is at the ends of 0 to 2^31 takes a sample in.
func TestSampleStatesAtTheEnds(t *testing.T) {
	for _, c := range []struct {
		s, want rto.State
	}{
		{known(0, 400, 2400), known(100, 500, 2100)},
		{known(800, 0, 2400), known(800, 0, 1000)},
		{known(800, 400, 0), known(800, 300, 2000)},
		{known(greatest, 400, 2400), known(1879048292, 536871012, 60000)},
		{known(800, greatest, 2400), known(800, 1610612736, 60000)},
		{known(800, 400, greatest), known(800, 300, 2000)},
		{known(0, 0, 0), known(100, 200, 1000)},
		{known(greatest, greatest, greatest), known(1879048292, 2147483448, 60000)},
		{rto.State{Smooth: greatest}, known(800, 400, 2400)},
		{rto.State{Var: greatest}, known(800, 400, 2400)},
		{rto.State{Wait: greatest}, known(800, 400, 2400)},
		{rto.State{}, known(800, 400, 2400)},
	} {
		checkSample(t, c.s, 800, c.want)
	}
	for _, n := range []int{0, 1, greatest - 1, greatest} {
		for name, s := range withOne(n) {
			for _, r := range []int{0, 1, 2001, longestWay} {
				got := rto.Sample(s, r)
				if got != sampled(s, r) || !got.Known {
					t.Errorf("%s: Sample(%v, %d) is %v, want %v", name, s, r, got, sampled(s, r))
				}
			}
		}
	}
}

// P11.2: the first sample is Smooth, and half of it, rounded down, is Var; what stood there is gone.
func TestFirstSample(t *testing.T) {
	for _, c := range []struct {
		r, variance, wait int
	}{
		{0, 0, 1000}, {1, 0, 1000}, {2, 1, 1000}, {3, 1, 1000}, {100, 50, 1000}, {333, 166, 1000}, {334, 167, 1002}, {335, 167, 1003}, {336, 168, 1008},
		{800, 400, 2400}, {801, 400, 2401}, {1999, 999, 5995}, {2000, 1000, 6000}, {20000, 10000, 60000}, {19999, 9999, 59995}, {20001, 10000, 60000}, {20002, 10001, 60000}, {1000000, 500000, 60000},
	} {
		want := known(c.r, c.variance, c.wait)
		for _, s := range []rto.State{rto.Start(), {}, {Wait: 60000}, {Smooth: 5000}, {Var: 7777}, {Smooth: 9, Var: 9, Wait: 9}, {Smooth: greatest, Var: greatest, Wait: greatest}} {
			checkSample(t, s, c.r, want)
		}
	}
}

// P11.2: a later sample takes Var and Smooth some way with it, whether it is below Smooth, above it or the same.
func TestLaterSample(t *testing.T) {
	for _, c := range []struct {
		s    rto.State
		r    int
		want rto.State
	}{
		{known(800, 400, 2400), 400, known(750, 400, 2350)},
		{known(800, 400, 2400), 800, known(800, 300, 2000)},
		{known(800, 400, 2400), 1200, known(850, 400, 2450)},
		{known(800, 400, 2400), 0, known(700, 500, 2700)},
		{known(800, 400, 2400), 1600, known(900, 500, 2900)},
		{known(800, 400, 2400), 8800, known(1800, 2300, 11000)},
		{known(1000, 0, 1001), 1080, known(1010, 20, 1090)},
		{known(1000, 0, 1001), 920, known(990, 20, 1070)},
		{known(2000, 0, 0), 2000, known(2000, 0, 2001)},
		{known(0, 0, 0), 0, known(0, 0, 1000)},
		{known(0, 0, 0), 8, known(1, 2, 1000)},
	} {
		checkSample(t, c.s, c.r, c.want)
	}
}

// P11.2: Var is rounded down where 3 Var and d together are no multiple of 4.
func TestVarRoundsDown(t *testing.T) {
	for _, c := range []struct {
		variance, d, want int
	}{
		{0, 0, 0}, {0, 1, 0}, {0, 2, 0}, {0, 3, 0}, {0, 4, 1}, {0, 5, 1}, {0, 7, 1}, {0, 8, 2},
		{1, 0, 0}, {1, 1, 1}, {1, 2, 1}, {1, 4, 1}, {1, 5, 2}, {2, 0, 1}, {2, 1, 1}, {2, 2, 2}, {3, 0, 2}, {3, 2, 2}, {3, 3, 3}, {3, 6, 3}, {3, 7, 4}, {101, 0, 75}, {101, 1, 76}, {102, 0, 76}, {103, 0, 77}, {103, 2, 77}, {103, 3, 78},
	} {
		for _, r := range []int{2000 - c.d, 2000 + c.d} {
			got := rto.Sample(known(2000, c.variance, 3000), r)
			if got.Var != c.want {
				t.Errorf("Var %d, %d apart: Var is %d, want %d", c.variance, c.d, got.Var, c.want)
			}
			if got != sampled(known(2000, c.variance, 3000), r) {
				t.Errorf("Var %d, %d apart: the state is %v", c.variance, c.d, got)
			}
		}
	}
}

// P11.2: Smooth is rounded down where 7 Smooth and r together are no multiple of 8, from above and from below.
func TestSmoothRoundsDown(t *testing.T) {
	for _, c := range []struct {
		smooth, r, want int
	}{
		{0, 1, 0}, {0, 7, 0}, {0, 8, 1}, {0, 15, 1}, {0, 16, 2}, {1, 0, 0}, {1, 1, 1}, {1, 8, 1}, {1, 9, 2}, {2, 1, 1}, {2, 2, 2}, {8, 0, 7}, {8, 7, 7}, {8, 8, 8}, {8, 15, 8}, {8, 16, 9},
		{1000, 999, 999}, {1000, 993, 999}, {1000, 992, 999}, {1000, 991, 998}, {1000, 1001, 1000}, {1000, 1007, 1000}, {1000, 1008, 1001}, {1000, 0, 875}, {1001, 0, 875}, {1002, 0, 876}, {1003, 0, 877},
	} {
		s := known(c.smooth, 5, 1000)
		got := rto.Sample(s, c.r)
		if got.Smooth != c.want {
			t.Errorf("Smooth %d, sample %d: Smooth is %d, want %d", c.smooth, c.r, got.Smooth, c.want)
		}
		if got != sampled(s, c.r) {
			t.Errorf("Smooth %d, sample %d: the state is %v, want %v", c.smooth, c.r, got, sampled(s, c.r))
		}
	}
}

// P11.2: d is reckoned from the Smooth of before, not from the one that the sample makes.
func TestApartFromBefore(t *testing.T) {
	for _, c := range []struct {
		smooth, r, variance int
	}{
		{1000, 1800, 200}, {1000, 200, 200}, {0, 8000, 2000}, {8000, 0, 2000}, {longestWay, 0, 1 << 28}, {0, longestWay, 1 << 28}, {greatest, 0, 1 << 29}, {greatest, longestWay, 1 << 28},
	} {
		if got := rto.Sample(known(c.smooth, 0, 1000), c.r); got.Var != c.variance {
			t.Errorf("Smooth %d, sample %d: Var is %d, want %d", c.smooth, c.r, got.Var, c.variance)
		}
	}
}

// P11.2: Wait is Smooth and 4 Var of behind the sample together, and of Var 0 Smooth and 1, but at least 1000 and at most 60000.
func TestWait(t *testing.T) {
	for _, c := range []struct {
		smooth, variance, wait int
	}{
		{998, 0, 1000}, {999, 0, 1000}, {1000, 0, 1001}, {1001, 0, 1002}, {2000, 0, 2001}, {59997, 0, 59998}, {59998, 0, 59999}, {59999, 0, 60000}, {60000, 0, 60000}, {60001, 0, 60000},
		{998, 1, 1000}, {999, 1, 1000}, {1000, 1, 1001}, {2000, 1, 2001}, {59998, 1, 59999}, {59999, 1, 60000}, {60000, 1, 60000},
		{995, 2, 1000}, {996, 2, 1000}, {997, 2, 1001}, {59995, 2, 59999}, {59996, 2, 60000}, {59997, 2, 60000},
		{0, 4, 1000}, {986, 4, 1000}, {987, 4, 1000}, {988, 4, 1000}, {989, 4, 1001}, {990, 4, 1002}, {59986, 4, 59998}, {59987, 4, 59999}, {59988, 4, 60000}, {59989, 4, 60000}, {59990, 4, 60000},
		{0, 332, 1000}, {1, 332, 1000}, {4, 332, 1000}, {5, 332, 1001}, {0, 334, 1000}, {1, 334, 1001}, {0, 335, 1004}, {0, 20000, 60000}, {0, 19999, 59996}, {3, 19999, 59999}, {4, 19999, 60000}, {5, 19999, 60000}, {0, 20002, 60000},
		{0, greatest, 60000}, {longestWay, 0, 60000}, {longestWay, greatest, 60000},
	} {
		for _, wait := range []int{0, 1, 1000, 60000, greatest} {
			want := known(c.smooth, c.variance-(c.variance+3)/4, c.wait)
			checkSample(t, known(c.smooth, c.variance, wait), c.smooth, want)
		}
	}
}

// P11.2: it is the Var of behind the sample that is 0 or not.
func TestWaitByNewVar(t *testing.T) {
	checkSample(t, known(2000, 1, 3000), 2000, known(2000, 0, 2001))
	checkSample(t, known(2000, 0, 3000), 2003, known(2000, 0, 2001))
	checkSample(t, known(2000, 0, 3000), 2004, known(2000, 1, 2004))
	checkSample(t, known(2000, 0, 3000), 1997, known(1999, 0, 2000))
	checkSample(t, known(2000, 0, 3000), 1996, known(1999, 1, 2003))
	checkSample(t, known(2000, 0, 3000), 2008, known(2001, 2, 2009))
	checkSample(t, known(2000, 1, 3000), 2001, known(2000, 1, 2004))
}
