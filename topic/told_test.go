package topic_test

import (
	"testing"

	"bollard/api"
	"bollard/topic"
)

// P19.4: what waits longest, over several topics, to the end and beyond.
func TestPullInOrder(t *testing.T) {
	for _, mode := range modes {
		p := filled(t, mode, 8, "b", "a", "a", "c", "b")
		for _, want := range []string{"b", "a"} {
			if item, there := p.pull(1); item.Topic != want || !there {
				t.Errorf("Pull is %s, %v", told(item), there)
			}
		}
		p.says(2, "a")
		p.pulls(1, "a 1", "c 0", "b 1", "a 2")
		p.says(2, "c")
		p.says(0, "a")
		p.pulls(1, "c 1", "a 3")
	}
}

// P19.4: what one party pulls waits for the others still.
func TestPullIsOnesOwn(t *testing.T) {
	p := joined(t, 3, 4)
	p.subscribe(1, "a", ordered)
	p.subscribe(2, "a", ordered)
	p.says(0, "a")
	p.says(0, "a")
	p.pulls(1, "a 0", "a 1")
	p.pulls(2, "a 0", "a 1")
}

// P19.4: what is pulled makes room.
func TestPullMakesRoom(t *testing.T) {
	for _, mode := range modes {
		p := joined(t, 2, 2)
		p.subscribe(1, "a", mode)
		p.subscribe(1, "b", mode)
		for _, name := range []string{"a", "b", "b", "a", "a"} {
			if p.relay.Waiting(1) == 2 {
				p.pull(1)
			}
			if p.says(0, name) != 1 {
				t.Errorf("mode %d: %q was not taken", mode, name)
			}
		}
		p.pulls(1, "a 1", "a 2")
	}
}

// nothing asks that a Relay tells nothing of a party.
func nothing(t *testing.T, relay *topic.Relay, party int) {
	t.Helper()
	if item, there := relay.Pull(party); !sameItems(item, topic.Item{}) || there {
		t.Errorf("Pull(%d) is %s, %v", party, told(item), there)
	}
	for _, name := range append([]string{"", "none"}, append(topics, largeTopics...)...) {
		if relay.Failed(party, name) {
			t.Errorf("Failed(%d, %.20q) is true", party, name)
		}
	}
	if lost, waiting := relay.Lost(party), relay.Waiting(party); lost != 0 || waiting != 0 {
		t.Errorf("of %d: %d lost, %d wait", party, lost, waiting)
	}
}

// P19.4: of no party, of one that has not joined, of one that has left, of one that has joined anew.
func TestToldOfNobody(t *testing.T) {
	p := joined(t, 4, 1)
	for party := range 3 {
		p.subscribe(party, "a", ordered)
		p.subscribe(party, "b", newest)
	}
	for _, name := range []string{"a", "a", "b"} {
		p.says(3, name)
	}
	for _, party := range append([]int{4, 5}, outside...) {
		nothing(t, p.relay, party)
	}
	p.leave(1)
	nothing(t, p.relay, 1)
	p.join(1)
	nothing(t, p.relay, 1)
	p.leave(3)
	nothing(t, p.relay, 3)
	for _, party := range []int{0, 2} {
		if !p.relay.Failed(party, "a") || p.relay.Failed(party, "b") || p.relay.Lost(party) != 1 || p.relay.Waiting(party) != 1 {
			t.Errorf("of %d: %v, %v, %d, %d", party, p.relay.Failed(party, "a"), p.relay.Failed(party, "b"), p.relay.Lost(party), p.relay.Waiting(party))
		}
	}
}

// P19.4: Failed of what is there, what is not, what failed, what was dropped, what is had anew.
func TestFailed(t *testing.T) {
	p := joined(t, 3, 1)
	asks := func(party int, name string, want bool) {
		t.Helper()
		if got := p.relay.Failed(party, name); got != want {
			t.Errorf("Failed(%d, %q) is %v", party, name, got)
		}
	}
	p.subscribe(1, "a", ordered)
	p.subscribe(1, "b", ordered)
	p.subscribe(2, "a", ordered)
	asks(1, "a", false)
	p.says(0, "a")
	asks(1, "a", false)
	p.pull(2)
	p.says(0, "a")
	asks(1, "a", true)
	asks(1, "b", false)
	asks(2, "a", false)
	asks(1, "c", false)
	asks(1, "", false)
	asks(1, long(300), false)
	p.pull(1)
	asks(1, "a", true)
	p.subscribe(1, "a", newest)
	asks(1, "a", false)
	p.says(0, "b")
	p.says(0, "b")
	asks(1, "b", true)
	p.drop(1, "b")
	asks(1, "b", false)
}

// P19.4: Lost counts over all topics, since the Join; neither what is dropped nor what a failed subscription does not take.
func TestLost(t *testing.T) {
	p := joined(t, 2, 2)
	p.subscribe(1, "a", newest)
	p.subscribe(1, "b", oldest)
	p.subscribe(1, "c", ordered)
	asks := func(want int) {
		t.Helper()
		if got := p.relay.Lost(1); got != want {
			t.Errorf("Lost is %d, want %d", got, want)
		}
	}
	for _, x := range []struct {
		name string
		want int
	}{{"a", 0}, {"a", 0}, {"a", 1}, {"b", 2}, {"c", 2}, {"c", 2}, {"a", 3}} {
		p.says(0, x.name)
		asks(x.want)
	}
	p.pull(1)
	for i := range 5 {
		p.says(0, "b")
		asks(3 + i)
	}
	p.drop(1, "a")
	asks(7)
	p.drop(1, "b")
	asks(7)
	p.pulls(1)
	asks(7)
	p.leave(1)
	asks(0)
	p.join(1)
	asks(0)
}

// P19.4: Count of each topic, of what was published with OK, whether anybody took it or not; a Join or a Leave changes nothing.
func TestCount(t *testing.T) {
	p := joined(t, 2, 1)
	for i, name := range topics {
		for k := range i + 1 {
			if got := p.relay.Count(name); got != k {
				t.Errorf("Count(%.20q) is %d, want %d", name, got, k)
			}
			p.says(k%2, name)
		}
	}
	for _, name := range append([]string{"", "none"}, largeTopics...) {
		p.publish(0, name+"", true, make([]byte, 16385))
		if got := p.relay.Count(name); got != 0 {
			t.Errorf("Count(%.20q) is %d", name, got)
		}
	}
	p.leave(0)
	p.leave(1)
	p.join(1)
	for i, name := range topics {
		if got := p.relay.Count(name); got != i+1 {
			t.Errorf("behind a Leave Count(%.20q) is %d, want %d", name, got, i+1)
		}
		p.says(1, name)
		if got := p.relay.Count(name); got != i+2 {
			t.Errorf("Count(%.20q) is %d, want %d", name, got, i+2)
		}
	}
}

// P19.4: asking changes nothing, however often.
func TestAskingChangesNothing(t *testing.T) {
	p := filled(t, oldest, 2, "a", "b")
	p.says(0, "b")
	for range 100 {
		for _, name := range []string{"a", "b", "c", "d"} {
			p.relay.Failed(1, name)
			p.relay.Count(name)
			p.relay.Waiting(1)
			p.relay.Lost(1)
			p.relay.Pull(2)
		}
	}
	p.same()
	p.pulls(1, "a 0", "b 1")
}

// P1: all calls of a nil Relay.
func TestNil(t *testing.T) {
	noParties(t, nil)
}

// P1: a Relay that nobody made by New has no parties, and none of its calls panics.
func TestZeroValue(t *testing.T) {
	noParties(t, new(topic.Relay))
}

// noParties asks all calls of a Relay that has none.
func noParties(t *testing.T, relay *topic.Relay) {
	t.Helper()
	none := func(call string, err api.Errno) {
		t.Helper()
		if err != api.ErrArg {
			t.Errorf("%s is %v", call, err)
		}
	}
	for _, party := range append([]int{0, 1, 15}, outside...) {
		none("Join", relay.Join(party))
		none("Leave", relay.Leave(party))
		for _, name := range append([]string{"", "a"}, largeTopics...) {
			none("Subscribe", relay.Subscribe(party, name, ordered))
			none("Drop", relay.Drop(party, name))
			for _, n := range []int{0, 1, 16385} {
				taken, err := relay.Publish(party, name, true, make([]byte, n))
				none("Publish", err)
				if taken != 0 {
					t.Errorf("%d took it", taken)
				}
			}
			if n := relay.Count(name); n != 0 {
				t.Errorf("Count(%.20q) is %d", name, n)
			}
		}
		nothing(t, relay, party)
	}
}
