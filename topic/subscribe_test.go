package topic_test

import (
	"fmt"
	"slices"
	"testing"

	"bollard/api"
)

// P19.2: each mode, and each topic that may be.
func TestSubscribeEach(t *testing.T) {
	for _, name := range topics {
		for _, mode := range modes {
			p := joined(t, 2, 2)
			p.want(p.subscribe(1, name, mode), api.OK)
			if n := p.says(0, name); n != 1 {
				t.Errorf("Subscribe(1, %q, %d): %d took it", name, mode, n)
			}
			p.pulls(1, name+" 0")
		}
	}
}

// P19.2: modes that are none, topics that are empty or too long, parties that are none; nothing is had behind a refusal.
func TestSubscribeRefused(t *testing.T) {
	p := joined(t, 2, 2)
	for _, mode := range noModes {
		p.want(p.subscribe(1, "a", mode), api.ErrArg)
	}
	for _, mode := range modes {
		p.want(p.subscribe(1, "", mode), api.ErrArg)
		for _, name := range largeTopics {
			p.want(p.subscribe(1, name, mode), api.ErrLarge)
			p.want(p.drop(1, name), api.ErrName)
		}
		for _, party := range append([]int{2, 3}, outside...) {
			p.want(p.subscribe(party, "a", mode), api.ErrArg)
		}
	}
	p.want(p.drop(1, "a"), api.ErrName)
	p.want(p.drop(1, ""), api.ErrName)
	p.says(0, "a")
	p.pulls(1)
}

// P19.2: the lengths of topics.
func TestSubscribeLengths(t *testing.T) {
	for _, n := range []int{0, 1, 2, 254, 255, 256, 257, 258, 511, 512, 513, 65535, 65536, 65537, 65792} {
		want := api.OK
		if n == 0 {
			want = api.ErrArg
		} else if n > 256 {
			want = api.ErrLarge
		}
		for _, mode := range modes {
			p := joined(t, 1, 2)
			p.want(p.subscribe(0, long(n), mode), want)
		}
	}
}

// P19.2: ahead of a Join, and behind a Leave.
func TestSubscribeClosed(t *testing.T) {
	p := start(t, 3, 2)
	p.join(0)
	for range 2 {
		for _, mode := range modes {
			p.want(p.subscribe(1, "a", mode), api.ErrClosed)
			p.want(p.drop(1, "a"), api.ErrClosed)
			p.want(p.subscribe(1, "a", 3), api.ErrArg)
		}
		p.join(1)
		p.subscribe(1, "a", ordered)
		p.leave(1)
	}
	p.join(1)
	p.want(p.drop(1, "a"), api.ErrName)
}

// P19.2: twice, in each mode behind each other: it stays as it was.
func TestSubscribeTwice(t *testing.T) {
	for _, mode := range modes {
		for _, again := range modes {
			p := joined(t, 2, 2)
			p.subscribe(1, "a", mode)
			p.want(p.subscribe(1, "a", again), api.ErrState)
			for range 3 {
				p.says(0, "a")
			}
			if got := p.relay.Failed(1, "a"); got != (mode == ordered) {
				t.Errorf("mode %d, then %d: Failed is %v", mode, again, got)
			}
			p.pulls(1, [][]string{{"a 0", "a 1"}, {"a 0", "a 1"}, {"a 1", "a 2"}}[mode]...)
		}
	}
}

// P19.2: anew, once it has failed: it takes on again, by the mode that it has now; what waits of before stays.
func TestSubscribeAnew(t *testing.T) {
	for _, again := range modes {
		p := joined(t, 2, 2)
		p.subscribe(1, "a", ordered)
		for range 5 {
			p.says(0, "a")
		}
		p.want(p.subscribe(1, "a", 3), api.ErrArg)
		if !p.relay.Failed(1, "a") {
			t.Errorf("a refusal made it anew")
		}
		p.want(p.subscribe(1, "a", again), api.OK)
		p.want(p.subscribe(1, "a", again), api.ErrState)
		if p.relay.Failed(1, "a") {
			t.Errorf("mode %d: it failed still", again)
		}
		if n := p.says(0, "a"); (n == 1) != (again == oldest) {
			t.Errorf("mode %d: %d took it", again, n)
		}
		if p.relay.Failed(1, "a") != (again == ordered) || (p.relay.Lost(1) == 1) != (again != ordered) {
			t.Errorf("mode %d: %v, %d", again, p.relay.Failed(1, "a"), p.relay.Lost(1))
		}
		p.subscribe(1, "a", again)
		p.pulls(1, [][]string{{"a 0", "a 1"}, {"a 0", "a 1"}, {"a 1", "a 5"}}[again]...)
		p.says(0, "a")
		p.pulls(1, "a 6")
	}
}

// fails lets a party's subscriptions to topics fail: what waits, of another topic, leaves no room.
func (p *pair) fails(party int, names ...string) {
	p.t.Helper()
	p.want(p.subscribe(party, "all", newest), api.OK)
	for len(p.words.of(party).waits) < p.words.room {
		p.says(0, "all")
	}
	for _, name := range names {
		p.says(0, name)
		if !p.relay.Failed(party, name) {
			p.t.Fatalf("%q did not fail", name)
		}
	}
	p.want(p.drop(party, "all"), api.OK)
}

// P19.2: 63, 64 and 65 subscriptions; one that fails counts, but for itself.
func TestSubscribeFull(t *testing.T) {
	for _, failing := range []int{0, 1, 32, 63} {
		p := joined(t, 2, 1)
		var names []string
		for i := range 63 {
			names = append(names, fmt.Sprint(i))
			p.want(p.subscribe(1, names[i], ordered), api.OK)
		}
		p.fails(1, names[:failing]...)
		p.want(p.subscribe(1, "64th", newest), api.OK)
		for _, mode := range modes {
			p.want(p.subscribe(1, "65th", mode), api.ErrFull)
		}
		for i, name := range names {
			want := api.ErrState
			if i < failing {
				want = api.OK
			}
			p.want(p.subscribe(1, name, i%3), want)
		}
		p.want(p.subscribe(1, "64th", newest), api.ErrState)
		p.want(p.subscribe(1, "65th", newest), api.ErrFull)
		p.want(p.drop(1, names[40]), api.OK)
		p.want(p.subscribe(1, "65th", newest), api.OK)
		p.want(p.subscribe(1, names[40], ordered), api.ErrFull)
		p.want(p.subscribe(0, names[40], ordered), api.OK)
	}
}

// P19.2: one that has failed is dropped, and makes room.
func TestDropFailed(t *testing.T) {
	p := joined(t, 2, 1)
	var names []string
	for i := range 63 {
		names = append(names, fmt.Sprint(i))
		p.subscribe(1, names[i], ordered)
	}
	p.fails(1, names...)
	p.subscribe(1, "64th", ordered)
	for _, name := range names {
		p.want(p.subscribe(1, "new "+name, ordered), api.ErrFull)
		p.want(p.drop(1, name), api.OK)
		p.want(p.drop(1, name), api.ErrName)
		p.want(p.subscribe(1, "new "+name, ordered), api.OK)
	}
}

// P19.2: of several faults the one that is named first.
func TestSubscribeSeveralFaults(t *testing.T) {
	p := start(t, 2, 1)
	p.join(0)
	large := long(257)
	p.want(p.subscribe(2, large, 0), api.ErrArg)
	p.want(p.subscribe(-1, large, 3), api.ErrArg)
	p.want(p.subscribe(1, large, 3), api.ErrArg)
	p.want(p.subscribe(1, "", 0), api.ErrArg)
	p.want(p.subscribe(1, large, 0), api.ErrLarge)
	p.want(p.subscribe(1, "a", -1), api.ErrArg)
	p.want(p.subscribe(1, "a", 0), api.ErrClosed)
	p.join(1)
	for i := range 64 {
		p.subscribe(1, fmt.Sprint(i), newest)
	}
	p.want(p.subscribe(1, "7", 3), api.ErrArg)
	p.want(p.subscribe(1, "7", ordered), api.ErrState)
	p.want(p.subscribe(1, "a", 3), api.ErrArg)
	p.want(p.subscribe(1, large, ordered), api.ErrLarge)
	p.want(p.subscribe(1, "", ordered), api.ErrArg)
	p.want(p.subscribe(1, "a", ordered), api.ErrFull)
	p.leave(1)
	p.want(p.subscribe(1, "7", ordered), api.ErrClosed)
}

// P19.2: Drop of no party, of one that has not joined, of what is not there.
func TestDropRefused(t *testing.T) {
	p := joined(t, 2, 2)
	p.subscribe(1, "a", ordered)
	p.says(0, "a")
	for _, party := range append([]int{2, 3}, outside...) {
		for _, name := range append([]string{"", "a"}, largeTopics...) {
			p.want(p.drop(party, name), api.ErrArg)
		}
	}
	for _, name := range append([]string{"", "b", "A", "a ", "a\x00"}, largeTopics...) {
		p.want(p.drop(1, name), api.ErrName)
	}
	p.want(p.drop(0, "a"), api.ErrName)
	p.leave(0)
	for _, name := range append([]string{"", "a"}, largeTopics...) {
		p.want(p.drop(0, name), api.ErrClosed)
	}
	p.pulls(1, "a 0")
}

// P19.2: with Drop only what waits of that topic for that party goes away; the rest stays in its order.
func TestDropWhatWaits(t *testing.T) {
	all := []string{"a", "b", "a", "c", "c", "a", "b", "c", "a", "a"}
	for _, gone := range []string{"a", "b", "c", "d"} {
		for _, mode := range modes {
			p := joined(t, 3, 10)
			for _, name := range []string{"a", "b", "c", "d"} {
				p.subscribe(1, name, mode)
				p.subscribe(2, name, mode)
			}
			var whole, rest []string
			for _, name := range all {
				item := fmt.Sprint(name, " ", p.words.count(name))
				p.says(0, name)
				whole = append(whole, item)
				if name != gone {
					rest = append(rest, item)
				}
			}
			p.want(p.drop(1, gone), api.OK)
			if p.relay.Lost(1) != 0 || p.relay.Waiting(1) != len(rest) || p.relay.Waiting(2) != 10 {
				t.Errorf("Drop(1, %q): %d lost, %d wait, %d wait for 2", gone, p.relay.Lost(1), p.relay.Waiting(1), p.relay.Waiting(2))
			}
			if n := p.says(0, gone); slices.Contains(all, gone) && n != min(mode/2, 1) {
				t.Errorf("Drop(1, %q), mode %d: %d took what came then", gone, mode, n)
			}
			p.pulls(1, rest...)
			if mode != oldest {
				p.pulls(2, whole...)
			}
		}
	}
}

// P19.2: what goes away with Drop makes room again.
func TestDropMakesRoom(t *testing.T) {
	p := joined(t, 2, 2)
	p.subscribe(1, "a", newest)
	p.subscribe(1, "b", ordered)
	p.says(0, "a")
	p.says(0, "a")
	p.drop(1, "a")
	if p.says(0, "b") != 1 || p.says(0, "b") != 1 || p.says(0, "b") != 0 {
		t.Errorf("what waited of another topic is in the way still")
	}
	p.pulls(1, "b 0", "b 1")
}

// P19.2: dropped and subscribed to again: it has not failed, and begins with what comes then.
func TestDropAndAgain(t *testing.T) {
	for _, mode := range modes {
		p := joined(t, 2, 1)
		p.subscribe(1, "a", ordered)
		p.says(0, "a")
		p.says(0, "a")
		p.want(p.drop(1, "a"), api.OK)
		if p.relay.Failed(1, "a") {
			t.Errorf("what is not there has failed")
		}
		p.says(0, "a")
		p.want(p.subscribe(1, "a", mode), api.OK)
		p.says(0, "a")
		p.pulls(1, "a 3")
	}
}
