package window_test

import (
	"math/rand"
	"testing"

	"bollard/window"
)

// The chapter's example.
func TestExample(t *testing.T) {
	s := window.Start(1200)
	if s.Cwnd != 3600 {
		t.Errorf("Start(1200) is %v", s)
	}
	checkAcked(t, s, 1200, true, 0, window.State{Cwnd: 4800, Thresh: greatest, Mtu: 1200})
	checkTimeout(t, window.Acked(s, 1200, true, 0), window.State{Cwnd: 1200, Thresh: 4800, Mtu: 1200})
}

// P12.1 to P12.4: a row that was worked out by hand.
func TestRow(t *testing.T) {
	s := window.Start(1000)
	ack := func(n int, full bool, cum uint32) func() { return func() { s = window.Acked(s, n, full, cum) } }
	lose := func(exit uint32) func() { return func() { s = window.Lost(s, exit) } }
	wait := func() { s = window.Timeout(s) }
	for i, c := range []struct {
		step func()
		want window.State
	}{
		{ack(2000, true, 1), window.State{Cwnd: 4000, Thresh: greatest, Mtu: 1000}},
		{ack(300, true, 2), window.State{Cwnd: 4300, Thresh: greatest, Mtu: 1000}},
		{ack(4300, false, 3), window.State{Cwnd: 4300, Thresh: greatest, Mtu: 1000}},
		{lose(9), window.State{Cwnd: 4000, Thresh: 4000, Mtu: 1000, Recover: true, Exit: 9}},
		{lose(12), window.State{Cwnd: 4000, Thresh: 4000, Mtu: 1000, Recover: true, Exit: 9}},
		{ack(1000, true, 8), window.State{Cwnd: 4000, Thresh: 4000, Mtu: 1000, Recover: true, Exit: 9}},
		{ack(1000, true, 10), window.State{Cwnd: 4000, Thresh: 4000, Mtu: 1000, Exit: 9}},
		{ack(900, true, 11), window.State{Cwnd: 4900, Thresh: 4000, Mtu: 1000, Exit: 9}},
		{ack(4000, true, 15), window.State{Cwnd: 4900, Thresh: 4000, Partial: 4000, Mtu: 1000, Exit: 9}},
		{ack(1000, true, 16), window.State{Cwnd: 5900, Thresh: 4000, Partial: 100, Mtu: 1000, Exit: 9}},
		{wait, window.State{Cwnd: 1000, Thresh: 4000, Mtu: 1000}},
		{ack(1000, true, 17), window.State{Cwnd: 2000, Thresh: 4000, Mtu: 1000}},
		{lose(20), window.State{Cwnd: 4000, Thresh: 4000, Mtu: 1000, Recover: true, Exit: 20}},
		{wait, window.State{Cwnd: 1000, Thresh: 4000, Mtu: 1000}},
		{ack(1000, true, 19), window.State{Cwnd: 2000, Thresh: 4000, Mtu: 1000}},
	} {
		if c.step(); s != c.want {
			t.Fatalf("behind step %d the state is %v, want %v", i, s, c.want)
		}
	}
}

// drawStep takes a state a step further, and tells what the words make of it.
func drawStep(draw *rand.Rand, s window.State) (got, want window.State) {
	exit := drawFloor(draw, s.Exit)
	switch draw.Intn(12) {
	case 0:
		return window.Lost(s, exit), lost(s, exit)
	case 1:
		return window.Timeout(s), timedOut(s)
	case 2:
		n, full := edges[draw.Intn(len(edges))], draw.Intn(4) > 0
		return window.Acked(s, n, full, exit), acked(s, n, full, exit)
	}
	n, full := drawNear(draw, 0, greatest, 0, s.Mtu, s.Cwnd-s.Partial, greatest-s.Partial), draw.Intn(8) > 0
	return window.Acked(s, n, full, exit), acked(s, n, full, exit)
}

// drawRow goes a row of steps that are drawn, each held against the words; a state that may be has to stay one.
func drawRow(t *testing.T, draw *rand.Rand, s window.State, steps int) {
	t.Helper()
	for i := range steps {
		before := s
		got, want := drawStep(draw, s)
		if got != want || s != before {
			t.Fatalf("step %d makes %v of %v, want %v; what was handed in is %v", i, got, before, want, s)
		}
		if mayBe(before) != mayBe(got) {
			t.Fatalf("step %d makes %v of %v", i, got, before)
		}
		s = got
		checkRoomBound(t, draw, s)
	}
}

// checkRoomBound asks that with as much more as there is room for no more flies than the greater one of Cwnd and Mtu, and that there is no room where more than that flies already.
func checkRoomBound(t *testing.T, draw *rand.Rand, s window.State) {
	t.Helper()
	if !mayBe(s) {
		return
	}
	bound := greater(s.Cwnd, s.Mtu)
	flying := drawNear(draw, 0, greatest, 0, s.Cwnd-s.Mtu, s.Cwnd, draw.Intn(s.Cwnd+1))
	peer := drawNear(draw, 0, greatest, 0, s.Mtu, s.Cwnd-flying, greatest)
	more := window.Room(s, flying, peer)
	if more != room(s, flying, peer) {
		t.Fatalf("Room(%v, %d, %d) is %d, want %d", s, flying, peer, more, room(s, flying, peer))
	}
	if more < 0 || flying <= bound && flying+more > bound || flying > bound && more != 0 {
		t.Fatalf("Room(%v, %d, %d) is %d", s, flying, peer, more)
	}
}

// P12.5, P12.2 to P12.4: rows of steps from a start, from states that are drawn, and from those at the bounds.
func TestRows(t *testing.T) {
	draw := rand.New(rand.NewSource(1))
	for range 300 {
		drawRow(t, draw, window.Start(drawNear(draw, -5, widest+5, 0, 1, 1200, widest)), 300)
	}
	for range 5000 {
		drawRow(t, draw, drawState(draw), 20)
	}
	for _, s := range statesAtBounds() {
		for range 20 {
			drawRow(t, draw, s, 20)
		}
	}
	for _, s := range brokenStates() {
		drawRow(t, draw, s, 20)
	}
}

// P12.5: what is sent by Room, told to have come, and lost by turns: with as much more as there is room for, no more flies than the greater one of Cwnd and Mtu.
func TestFlying(t *testing.T) {
	draw := rand.New(rand.NewSource(2))
	for range 200 {
		s, flying, cum := window.Start(drawNear(draw, 1, widest, 1, 1200, widest)), 0, draw.Uint32()
		for range 300 {
			bound := greater(s.Cwnd, s.Mtu)
			peer := drawNear(draw, 0, greatest, 0, s.Mtu, greatest)
			if more := window.Room(s, flying, peer); more > 0 {
				if flying += more; flying > bound {
					t.Fatalf("%d fly with the state %v", flying, s)
				}
			}
			came := draw.Intn(flying + 1)
			switch draw.Intn(10) {
			case 0:
				s, flying = window.Timeout(s), 0
			case 1:
				s, flying = window.Lost(s, cum+9), flying-came
			default:
				cum += uint32(draw.Intn(4))
				s, flying = window.Acked(s, came, flying >= s.Cwnd, cum), flying-came
			}
			if !mayBe(s) {
				t.Fatalf("the state is %v", s)
			}
		}
	}
}

// R3: nothing is kept: a call answers the same, whatever was called ahead of it, and rows that go by turns are as each alone.
func TestNothingKept(t *testing.T) {
	draw := rand.New(rand.NewSource(3))
	one, other := window.Start(1200), window.Start(1)
	wantOne, wantOther := started(1200), started(1)
	for i := range 3000 {
		n, m, cum := draw.Intn(5000), draw.Intn(5), draw.Uint32()
		one, wantOne = window.Acked(one, n, true, cum), acked(wantOne, n, true, cum)
		if i%7 == 0 {
			other, wantOther = window.Lost(other, cum), lost(wantOther, cum)
		}
		if i%50 == 0 {
			one, wantOne = window.Timeout(one), timedOut(wantOne)
		}
		other, wantOther = window.Acked(other, m, true, cum), acked(wantOther, m, true, cum)
		if one != wantOne || other != wantOther {
			t.Fatalf("by turns: %v and %v, want %v and %v", one, other, wantOne, wantOther)
		}
		if window.Room(one, 0, 0) != 1200 || window.Room(other, 0, 0) != 1 || window.Start(0) != started(1200) {
			t.Fatalf("Room of %v and of %v, or Start, is another one", one, other)
		}
	}
}

// eachEdge hands on all states whose numbers are of the few edges.
func eachEdge(hand func(window.State)) {
	few := []int{least, -1, 0, 1, 1200, widest, widest + 1, greatest, greatest + 1, most}
	for _, cwnd := range few {
		for _, thresh := range few {
			for _, partial := range few {
				for _, mtu := range few {
					hand(window.State{Cwnd: cwnd, Thresh: thresh, Partial: partial, Mtu: mtu, Exit: 7})
					hand(window.State{Cwnd: cwnd, Thresh: thresh, Partial: partial, Mtu: mtu, Recover: true, Exit: 7})
				}
			}
		}
	}
}

// P1: every call ends and none panics, at all edges of all arguments together.
func TestAllEdges(t *testing.T) {
	few := []int{least, -1, 0, 1, 1200, widest, greatest, greatest + 1, most}
	eachEdge(func(s window.State) {
		if got := window.Lost(s, 9); got != lost(s, 9) {
			t.Errorf("Lost(%v, 9) is %v, want %v", s, got, lost(s, 9))
		}
		if got := window.Timeout(s); got != timedOut(s) {
			t.Errorf("Timeout(%v) is %v, want %v", s, got, timedOut(s))
		}
		for _, n := range few {
			for _, cum := range []uint32{6, 7, 8} {
				if got, want := window.Acked(s, n, cum > 6, cum), acked(s, n, cum > 6, cum); got != want {
					t.Errorf("Acked(%v, %d, %v, %d) is %v, want %v", s, n, cum > 6, cum, got, want)
				}
			}
			for _, peer := range few {
				if got, want := window.Room(s, n, peer), room(s, n, peer); got != want {
					t.Errorf("Room(%v, %d, %d) is %d, want %d", s, n, peer, got, want)
				}
			}
		}
	})
	for _, mtu := range edges {
		if got, want := window.Start(mtu), started(mtu); got != want {
			t.Errorf("Start(%d) is %v, want %v", mtu, got, want)
		}
	}
}
