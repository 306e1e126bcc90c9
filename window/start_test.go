package window_test

import (
	"testing"

	"bollard/window"
)

// P12.1: a start has an mtu of 1 to 65536, three of them as Cwnd, Thresh 2^30, and nothing else set; any other mtu is 1200.
func TestStart(t *testing.T) {
	for _, c := range []struct{ mtu, cwnd, want int }{
		{1, 3, 1}, {2, 6, 2}, {28, 84, 28}, {1199, 3597, 1199}, {1200, 3600, 1200}, {1201, 3603, 1201}, {65535, 196605, 65535}, {65536, 196608, 65536},
		{-1, 3600, 1200}, {0, 3600, 1200}, {65537, 3600, 1200}, {65538, 3600, 1200}, {-2, 3600, 1200}, {-1200, 3600, 1200}, {greatest, 3600, 1200}, {greatest + 1, 3600, 1200}, {1<<32 + 1, 3600, 1200},
		{least, 3600, 1200}, {least + 1, 3600, 1200}, {most - 1, 3600, 1200}, {most, 3600, 1200},
	} {
		want := window.State{Cwnd: c.cwnd, Thresh: 1073741824, Partial: 0, Mtu: c.want, Recover: false, Exit: 0}
		if got := window.Start(c.mtu); got != want {
			t.Errorf("Start(%d) is %v, want %v", c.mtu, got, want)
		}
		if got := started(c.mtu); got != want {
			t.Errorf("the words tell %v of Start(%d), want %v", got, c.mtu, want)
		}
	}
}

// P12.1: all of the mtus that may be, and some around them, are as the words tell.
func TestStartOfAll(t *testing.T) {
	for mtu := -1000; mtu <= widest+1000; mtu++ {
		if got, want := window.Start(mtu), started(mtu); got != want || !mayBe(got) {
			t.Fatalf("Start(%d) is %v, want %v", mtu, got, want)
		}
	}
}
