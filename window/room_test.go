package window_test

import (
	"testing"

	"bollard/window"
)

// P12.4: a state that may not be leaves no room, not even for a probe.
func TestRoomBrokenStates(t *testing.T) {
	for _, s := range brokenStates() {
		for _, flying := range []int{0, 1, 1000, 100000, greatest, most} {
			for _, peer := range []int{0, 1, 1000, widest, greatest, most} {
				checkRoom(t, s, flying, peer, 0)
			}
		}
	}
}

// P12.4: a state at the bounds, from within, leaves room.
func TestRoomAtBounds(t *testing.T) {
	for _, s := range statesAtBounds() {
		checkRoom(t, s, 0, most, s.Cwnd)
		checkRoom(t, s, 0, 0, s.Mtu)
		checkRoom(t, s, 1, most, s.Cwnd-1)
		checkRoom(t, s, s.Cwnd, most, 0)
	}
}

// P12.4: flying or peer below 0 leaves no room.
func TestRoomBelowNothing(t *testing.T) {
	for _, n := range []int{least, least + 1, -greatest, -200000, -2, -1} {
		for _, s := range []window.State{slow, avoid, recovering, window.Start(1200)} {
			for _, other := range []int{least, -1, 0, 1, 1000, 200000, greatest, most} {
				checkRoom(t, s, n, other, 0)
				checkRoom(t, s, other, n, 0)
			}
		}
	}
}

// P12.4: room is what is left of Cwnd, at most peer, at least 0, and where nothing flies at least Mtu.
func TestRoom(t *testing.T) {
	for _, c := range []struct{ flying, peer, want int }{
		{0, most, 4000}, {0, greatest, 4000}, {0, 4001, 4000}, {0, 4000, 4000}, {0, 3999, 3999}, {0, 1001, 1001}, {0, 1000, 1000}, {0, 999, 1000}, {0, 1, 1000}, {0, 0, 1000},
		{1, most, 3999}, {1, 4000, 3999}, {1, 3999, 3999}, {1, 3998, 3998}, {1, 1001, 1001}, {1, 1000, 1000}, {1, 999, 999}, {1, 1, 1}, {1, 0, 0},
		{2500, most, 1500}, {2500, 1501, 1500}, {2500, 1500, 1500}, {2500, 1499, 1499}, {2500, 0, 0},
		{3000, most, 1000}, {3000, 1001, 1000}, {3000, 1000, 1000}, {3000, 999, 999}, {3001, most, 999}, {3001, 1000, 999},
		{3999, most, 1}, {3999, 2, 1}, {3999, 1, 1}, {3999, 0, 0}, {4000, most, 0}, {4000, 1, 0}, {4000, 0, 0}, {4001, most, 0}, {4001, 1000, 0}, {4001, 0, 0},
		{greatest, most, 0}, {most - 1, most, 0}, {most, most, 0}, {most, 1000, 0}, {most, 0, 0},
	} {
		for _, s := range []window.State{{Cwnd: 4000, Thresh: greatest, Mtu: 1000}, {Cwnd: 4000, Thresh: 3000, Partial: 3500, Mtu: 1000, Exit: 3}, {Cwnd: 4000, Thresh: 4000, Mtu: 1000, Recover: true, Exit: 9}, {Cwnd: 4000, Partial: greatest, Mtu: 1000}} {
			checkRoom(t, s, c.flying, c.peer, c.want)
		}
	}
}

// P12.4: where Cwnd is one Mtu, and where it is 2^30.
func TestRoomOfLeastAndGreatestWindow(t *testing.T) {
	for _, c := range []struct{ cwnd, mtu, flying, peer, want int }{
		{1000, 1000, 0, most, 1000}, {1000, 1000, 0, 0, 1000}, {1000, 1000, 0, 999, 1000}, {1000, 1000, 1, most, 999}, {1000, 1000, 999, most, 1}, {1000, 1000, 1000, most, 0},
		{1, 1, 0, 0, 1}, {1, 1, 0, most, 1}, {1, 1, 1, most, 0}, {widest, widest, 0, 0, widest}, {widest, widest, 1, most, widest - 1},
		{greatest, widest, 0, most, greatest}, {greatest, widest, 0, greatest + 1, greatest}, {greatest, widest, 0, greatest - 1, greatest - 1}, {greatest, widest, 0, 0, widest}, {greatest, widest, 1, most, greatest - 1}, {greatest, widest, greatest, most, 0}, {greatest, widest, greatest + 1, most, 0}, {greatest, widest, most, most, 0},
	} {
		checkRoom(t, window.State{Cwnd: c.cwnd, Thresh: 5, Mtu: c.mtu}, c.flying, c.peer, c.want)
	}
}
