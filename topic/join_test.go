package topic_test

import (
	"fmt"
	"testing"

	"bollard/api"
	"bollard/topic"
)

// numbers are some of parties and of rooms, by what they are to become where most are the greatest number.
func numbers(most int) map[int]int {
	l := map[int]int{1: 1, 2: 2, 3: 3, most - 1: most - 1, most: most}
	for _, n := range []int{0, -1, -2, -most, most + 1, most + 2, 2 * most, 255, 256, 257, 1 << 32, 1<<32 + 1, -1 << 32, least, least + 1, greatest} {
		l[n] = most
	}
	return l
}

// P19.1: how many parties may join.
func TestNewParties(t *testing.T) {
	for parties, want := range numbers(16) {
		relay := topic.New(parties, 4)
		for party := -3; party < 20; party++ {
			fault := api.ErrArg
			if 0 <= party && party < want {
				fault = api.OK
			}
			if err := relay.Join(party); err != fault {
				t.Errorf("New(%d): Join(%d) is %v, want %v", parties, party, err, fault)
			}
		}
		for _, party := range outside {
			if err := relay.Join(party); err != api.ErrArg {
				t.Errorf("New(%d): Join(%d) is %v", parties, party, err)
			}
		}
	}
}

// P19.1: how many items wait.
func TestNewRoom(t *testing.T) {
	for room, want := range numbers(64) {
		for _, mode := range modes {
			relay := topic.New(2, room)
			relay.Join(0)
			relay.Join(1)
			relay.Subscribe(1, "a", mode)
			for i := range 140 {
				relay.Publish(0, "a", true, nil)
				if got := relay.Waiting(1); got != min(i+1, want) {
					t.Fatalf("New(2, %d), mode %d: of %d published %d wait, want %d", room, mode, i+1, got, min(i+1, want))
				}
			}
		}
	}
}

// P19.1: parties and room do not hang on one another.
func TestNewBoth(t *testing.T) {
	for parties := range numbers(16) {
		for room := range numbers(64) {
			p := start(t, parties, room)
			p.join(0)
			p.join(p.words.parties - 1)
			p.join(p.words.parties)
		}
	}
}

// P19.1: each party joins and leaves, and none but it.
func TestJoinAndLeaveEach(t *testing.T) {
	for parties := 1; parties <= 16; parties++ {
		p := start(t, parties, 2)
		for party := range parties {
			p.want(p.leave(party), api.ErrClosed)
			p.want(p.join(party), api.OK)
			p.want(p.join(party), api.ErrState)
		}
		for party := range parties {
			p.want(p.leave(party), api.OK)
			p.want(p.leave(party), api.ErrClosed)
			for other := range parties {
				if _, err := p.publish(other, "a", true, nil); (err == api.OK) != (other > party) {
					t.Fatalf("behind Leave(%d) Publish(%d) is %v", party, other, err)
				}
			}
		}
		for party := range parties {
			p.want(p.join(party), api.OK)
		}
	}
}

// P19.1: parties that are none, whether anybody has joined or not.
func TestJoinAndLeaveNone(t *testing.T) {
	for _, parties := range []int{1, 2, 15, 16} {
		p := start(t, parties, 2)
		for range 2 {
			for _, party := range append([]int{parties, parties + 1}, outside...) {
				p.want(p.join(party), api.ErrArg)
				p.want(p.leave(party), api.ErrArg)
			}
			for party := range parties {
				p.join(party)
			}
		}
	}
}

// P19.1: who joins behind a Leave has nothing of before: no subscription, failed or not, nothing that waits, nothing lost.
func TestJoinAgain(t *testing.T) {
	for _, between := range []bool{false, true} {
		p := joined(t, 3, 3)
		p.subscribe(1, "a", ordered)
		p.subscribe(1, "b", newest)
		p.subscribe(1, "c", oldest)
		p.subscribe(2, "a", newest)
		for range 2 {
			for _, name := range []string{"a", "b", "c"} {
				p.says(0, name)
			}
		}
		if !p.words.failed(1, "a") || p.words.of(1).lost != 2 || len(p.words.of(1).waits) != 3 {
			t.Fatalf("ahead of the Leave there is %+v", p.words.of(1))
		}
		p.want(p.leave(1), api.OK)
		p.pulls(1)
		if between {
			p.says(0, "a")
			p.says(0, "b")
		}
		p.want(p.join(1), api.OK)
		p.pulls(1)
		for _, name := range []string{"a", "b", "c"} {
			p.want(p.drop(1, name), api.ErrName)
			p.says(0, name)
		}
		p.pulls(1)
		for _, name := range []string{"c", "b", "a"} {
			p.want(p.subscribe(1, name, ordered), api.OK)
		}
		p.says(0, "b")
		p.says(2, "c")
		p.pulls(1, fmt.Sprint("b ", p.words.count("b")-1), fmt.Sprint("c ", p.words.count("c")-1))
	}
}

// P19.1: with a Leave nothing of the others goes away.
func TestLeaveIsOnesOwn(t *testing.T) {
	p := joined(t, 4, 2)
	for party := 1; party < 4; party++ {
		p.subscribe(party, "a", ordered)
		p.subscribe(party, "b", oldest)
	}
	for _, name := range []string{"a", "b", "b", "a"} {
		p.says(0, name)
	}
	p.leave(2)
	p.leave(0)
	p.pulls(1, "a 0", "b 1")
	p.says(1, "b")
	p.pulls(3, "a 0", "b 2")
	if !p.relay.Failed(3, "a") || p.relay.Failed(2, "a") || p.relay.Lost(3) != 2 || p.relay.Lost(2) != 0 {
		t.Errorf("of 3: %v, %d; of 2: %v, %d", p.relay.Failed(3, "a"), p.relay.Lost(3), p.relay.Failed(2, "a"), p.relay.Lost(2))
	}
}

// P19.1: what a party published stays, once it has left.
func TestLeftPublisher(t *testing.T) {
	p := joined(t, 2, 4)
	p.subscribe(1, "a", ordered)
	p.says(0, "a")
	p.says(0, "a")
	p.leave(0)
	p.join(0)
	p.says(0, "a")
	p.pulls(1, "a 0", "a 1", "a 2")
}

// P19.1, P19.2: behind a Leave all 64 subscriptions may be had again.
func TestLeaveFreesSubscriptions(t *testing.T) {
	p := joined(t, 1, 4)
	for range 3 {
		for i := range 64 {
			p.want(p.subscribe(0, fmt.Sprint(i), i%3), api.OK)
		}
		p.want(p.subscribe(0, "more", newest), api.ErrFull)
		p.leave(0)
		p.join(0)
	}
}

// The modes have the chapter's numbers.
func TestModes(t *testing.T) {
	if topic.Ordered != 0 || topic.Newest != 1 || topic.Oldest != 2 {
		t.Errorf("the modes are %d, %d, %d", topic.Ordered, topic.Newest, topic.Oldest)
	}
}
