package topic_test

import (
	"fmt"
	"testing"
)

// handed is what becomes of an item that is handed to a party for which no room is left.
type handed struct {
	taken  int
	failed bool
	lost   int
	waits  []string
}

// asks hands an item of a topic to the party 1, and asks what becomes of it.
func (h handed) asks(t *testing.T, p *pair, name string) {
	t.Helper()
	before := p.relay.Lost(1)
	if n := p.says(0, name); n != h.taken {
		t.Errorf("%d took it, want %d", n, h.taken)
	}
	if got := p.relay.Failed(1, name); got != h.failed {
		t.Errorf("Failed is %v, want %v", got, h.failed)
	}
	if got := p.relay.Lost(1) - before; got != h.lost {
		t.Errorf("%d more are lost, want %d", got, h.lost)
	}
	if got := p.relay.Waiting(1); got != len(h.waits) {
		t.Errorf("%d wait, want %d", got, len(h.waits))
	}
	p.pulls(1, h.waits...)
}

// filled is a pair whose party 1 has items of these topics waiting, each subscribed to in a mode.
func filled(t *testing.T, mode, room int, names ...string) *pair {
	t.Helper()
	p := joined(t, 3, room)
	for _, name := range []string{"a", "b", "c"} {
		p.subscribe(1, name, mode)
	}
	for _, name := range names {
		if p.says(0, name) != 1 {
			t.Fatalf("%q was not taken", name)
		}
	}
	return p
}

// P19.3: where there is room each mode takes, behind what waits.
func TestHandedWithRoom(t *testing.T) {
	for _, mode := range modes {
		handed{taken: 1, waits: []string{"a 0"}}.asks(t, filled(t, mode, 1), "a")
		handed{taken: 1, waits: []string{"a 0", "a 1"}}.asks(t, filled(t, mode, 2, "a"), "a")
		handed{taken: 1, waits: []string{"b 0", "a 0", "b 1", "a 1"}}.asks(t, filled(t, mode, 4, "b", "a", "b"), "a")
		handed{taken: 1, waits: []string{"b 0", "c 0", "a 0"}}.asks(t, filled(t, mode, 3, "b", "c"), "a")
	}
}

// P19.3: no room, and an item of that topic waits: at the front, in the middle, at the end, all of them.
func TestHandedWithoutRoomOfThatTopic(t *testing.T) {
	for _, x := range []struct {
		names         []string
		whole, oldest []string
	}{
		{[]string{"a"}, []string{"a 0"}, []string{"a 1"}},
		{[]string{"a", "a", "a"}, []string{"a 0", "a 1", "a 2"}, []string{"a 1", "a 2", "a 3"}},
		{[]string{"a", "b", "c"}, []string{"a 0", "b 0", "c 0"}, []string{"b 0", "c 0", "a 1"}},
		{[]string{"b", "a", "c"}, []string{"b 0", "a 0", "c 0"}, []string{"b 0", "c 0", "a 1"}},
		{[]string{"b", "c", "a"}, []string{"b 0", "c 0", "a 0"}, []string{"b 0", "c 0", "a 1"}},
		{[]string{"b", "a", "c", "a", "b"}, []string{"b 0", "a 0", "c 0", "a 1", "b 1"}, []string{"b 0", "c 0", "a 1", "b 1", "a 2"}},
	} {
		room := len(x.names)
		handed{failed: true, waits: x.whole}.asks(t, filled(t, ordered, room, x.names...), "a")
		handed{lost: 1, waits: x.whole}.asks(t, filled(t, newest, room, x.names...), "a")
		handed{taken: 1, lost: 1, waits: x.oldest}.asks(t, filled(t, oldest, room, x.names...), "a")
	}
}

// P19.3: no room, and only items of other topics wait.
func TestHandedWithoutRoomOfOtherTopics(t *testing.T) {
	for _, x := range []struct{ names, whole []string }{
		{[]string{"b"}, []string{"b 0"}},
		{[]string{"b", "c", "b", "b"}, []string{"b 0", "c 0", "b 1", "b 2"}},
	} {
		room := len(x.names)
		handed{failed: true, waits: x.whole}.asks(t, filled(t, ordered, room, x.names...), "a")
		handed{lost: 1, waits: x.whole}.asks(t, filled(t, newest, room, x.names...), "a")
		handed{lost: 1, waits: x.whole}.asks(t, filled(t, oldest, room, x.names...), "a")
	}
}

// P19.3: what does not fit any more is none of the other subscriptions', in whatever modes these are.
func TestHandedLeavesOthers(t *testing.T) {
	for _, mode := range modes {
		for _, other := range modes {
			p := joined(t, 3, 2)
			p.subscribe(1, "a", mode)
			p.subscribe(1, "b", other)
			p.subscribe(2, "a", ordered)
			p.says(0, "b")
			p.says(0, "b")
			p.says(0, "a")
			p.says(0, "a")
			if p.relay.Failed(1, "b") || p.relay.Failed(2, "a") || p.relay.Lost(2) != 0 {
				t.Errorf("modes %d, %d: another one's failed", mode, other)
			}
			p.pulls(1, "b 0", "b 1")
			p.pulls(2, "a 0", "a 1")
		}
	}
}

// P19.3: each party by its own room and mode.
func TestHandedToMany(t *testing.T) {
	p := joined(t, 5, 2)
	for i, mode := range []int{ordered, newest, oldest, ordered} {
		p.subscribe(i+1, "a", mode)
	}
	for _, want := range []int{4, 4, 2, 1} {
		if n := p.says(0, "a"); n != want {
			t.Errorf("%d took it, want %d", n, want)
		}
		if p.relay.Count("a") == 1 {
			p.pulls(4, "a 0")
		}
	}
	if !p.relay.Failed(1, "a") || p.relay.Lost(2) != 2 || p.relay.Lost(3) != 2 || !p.relay.Failed(4, "a") {
		t.Errorf("%v, %d, %d, %v", p.relay.Failed(1, "a"), p.relay.Lost(2), p.relay.Lost(3), p.relay.Failed(4, "a"))
	}
	p.pulls(1, "a 0", "a 1")
	p.pulls(2, "a 0", "a 1")
	p.pulls(3, "a 2", "a 3")
	p.pulls(4, "a 1", "a 2")
}

// P19.3: one that has failed takes nothing, room or not, until it is subscribed again; nothing is lost by it.
func TestFailedTakesNothing(t *testing.T) {
	p := filled(t, ordered, 2, "a", "a")
	p.says(0, "a")
	for range 3 {
		if n := p.says(0, "a"); n != 0 {
			t.Errorf("%d took it", n)
		}
	}
	p.pulls(1, "a 0", "a 1")
	for range 3 {
		if n := p.says(0, "a"); n != 0 || !p.relay.Failed(1, "a") || p.relay.Lost(1) != 0 {
			t.Errorf("with room: %d took it, Failed is %v, Lost %d", n, p.relay.Failed(1, "a"), p.relay.Lost(1))
		}
	}
	p.pulls(1)
	p.subscribe(1, "a", ordered)
	p.says(0, "a")
	p.pulls(1, "a 9")
}

// P19.3: Ordered that has failed, and was subscribed to anew as Oldest, lets go of what waits of before.
func TestOldestOfBefore(t *testing.T) {
	p := filled(t, ordered, 3, "b", "a", "b")
	p.says(0, "a")
	p.subscribe(1, "a", oldest)
	handed{taken: 1, lost: 1, waits: []string{"b 0", "b 1", "a 2"}}.asks(t, p, "a")
}

// P19.3: all rooms, each mode: the item that is one too many, and those behind it.
func TestHandedAtEachRoom(t *testing.T) {
	for room := 1; room <= 64; room++ {
		for _, mode := range modes {
			p := joined(t, 2, room)
			p.subscribe(1, "a", mode)
			for i := range room + 3 {
				want := 1
				if i >= room && mode != oldest {
					want = 0
				}
				if n := p.says(0, "a"); n != want {
					t.Fatalf("room %d, mode %d: %d took the item %d, want %d", room, mode, n, i, want)
				}
			}
			from := 0
			if mode == oldest {
				from = 3
			}
			var l []string
			for i := from; i < from+room; i++ {
				l = append(l, fmt.Sprint("a ", i))
			}
			p.pulls(1, l...)
		}
	}
}
