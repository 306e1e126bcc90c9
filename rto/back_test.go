package rto_test

import (
	"testing"

	"bollard/rto"
)

// P11.3: Wait is twice as long, at most 60000, at least 1000; the rest is as it was, whatever it is.
func TestBack(t *testing.T) {
	for _, c := range []struct {
		wait, want int
	}{
		{0, 1000}, {1, 1000}, {2, 1000}, {250, 1000}, {499, 1000}, {500, 1000}, {501, 1002}, {502, 1004}, {999, 1998}, {1000, 2000}, {1001, 2002}, {3000, 6000}, {6000, 12000},
		{29998, 59996}, {29999, 59998}, {30000, 60000}, {30001, 60000}, {30002, 60000}, {59999, 60000}, {60000, 60000}, {60001, 60000}, {120000, 60000},
		{longestWay - 1, 60000}, {longestWay, 60000}, {longestWay + 1, 60000}, {greatest - 1, 60000}, {greatest, 60000},
	} {
		checkBack(t, rto.State{Wait: c.wait}, rto.State{Wait: c.want})
		for _, n := range edges {
			for _, is := range []bool{false, true} {
				checkBack(t, rto.State{Smooth: n, Var: 400, Wait: c.wait, Known: is}, rto.State{Smooth: n, Var: 400, Wait: c.want, Known: is})
				checkBack(t, rto.State{Smooth: 800, Var: n, Wait: c.wait, Known: is}, rto.State{Smooth: 800, Var: n, Wait: c.want, Known: is})
				checkBack(t, rto.State{Smooth: n, Var: n, Wait: c.wait, Known: is}, rto.State{Smooth: n, Var: n, Wait: c.want, Known: is})
			}
		}
	}
}

// P11.3: a state whose Wait is not 0 to 2^31 is answered as it is.
func TestBackBrokenWait(t *testing.T) {
	for _, wait := range broken {
		checkBack(t, rto.State{Wait: wait}, rto.State{Wait: wait})
		for _, n := range edges {
			for _, is := range []bool{false, true} {
				for _, s := range []rto.State{{Smooth: n, Var: 400, Wait: wait, Known: is}, {Smooth: 800, Var: n, Wait: wait, Known: is}} {
					checkBack(t, s, s)
				}
			}
		}
	}
}
