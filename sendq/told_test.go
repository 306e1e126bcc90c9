package sendq_test

import (
	"strings"
	"testing"

	"bollard/api"
	"bollard/sendq"
)

// P15.6: the states' numbers.
func TestStatesNumbers(t *testing.T) {
	if sendq.Waiting != 0 || sendq.Flying != 1 || sendq.Lost != 2 || sendq.Came != 3 || sendq.Given != 4 {
		t.Errorf("the states are %d, %d, %d, %d, %d", sendq.Waiting, sendq.Flying, sendq.Lost, sendq.Came, sendq.Given)
	}
}

// P15.6: State of each state, and of numbers that no entry has.
func TestState(t *testing.T) {
	for _, first := range firsts {
		for _, states := range []string{"", "W", "FLCGW", "GCLFWGW", "CCCCC"} {
			p := laid(t, first, states)
			for i, state := range []byte(states) {
				if got, ok := p.queue.State(first + uint32(i)); !ok || got != strings.IndexByte("WFLCG", state) {
					t.Errorf("%s: State at the place %d is %d, %v", states, i, got, ok)
				}
			}
			behind := first + uint32(len(states))
			for _, n := range append(drawn(153, 50), first-1, first-2, first-1000, first-65536, behind, behind+1, behind+1023, behind+1024, behind+65536, first+half, behind+half, first-1+half) {
				if n-first < uint32(len(states)) {
					continue
				}
				if got, ok := p.queue.State(n); ok || got != 0 {
					t.Errorf("%s from %d on: State(%d) is %d, %v", states, first, n, got, ok)
				}
			}
		}
	}
}

// P15.6: numbers have a state up to when they go away, and those behind keep theirs.
func TestStateBelowTheFloor(t *testing.T) {
	for _, first := range firsts {
		p := laid(t, first, "FLCGFW")
		for h := range uint32(5) {
			p.ack(1, 200, block(1, 1))
			if got, ok := p.queue.State(first + h); ok || got != 0 {
				t.Errorf("State(%d) is %d, %v", first+h, got, ok)
			}
		}
		p.states("W")
	}
}

// P15.6: the octets that fly, and those that are left to be sent, by their states.
func TestOctets(t *testing.T) {
	p := start(t, top-3)
	p.singles(1, 2, 4, 8, 16, 32, 64)
	p.push(5, -1, data(128))
	want := func(flying, left, count int) {
		t.Helper()
		if p.queue.Flying() != flying || p.queue.Left() != left || p.queue.Len() != count {
			t.Fatalf("Flying is %d, Left %d, Len %d, want %d, %d, %d", p.queue.Flying(), p.queue.Left(), p.queue.Len(), flying, left, count)
		}
	}
	want(0, 255, 8)
	p.takes(1, 31, 1, 2, 3, 4, 5)
	want(31, 224, 8)
	p.ack(0, 1, block(2, 2), block(4, 4))
	want(21, 224, 8)
	p.timeout(3)
	want(0, 245, 8)
	p.takes(1, 5, 1, 3)
	want(5, 240, 8)
	p.expire(6, 1)
	want(5, 112, 8)
	p.ack(1, 1, block(3, 3))
	want(6, 112, 7)
	p.ack(4, 1)
	want(0, 96, 3)
	p.takes(1, 96, 1, 2)
	want(96, 0, 3)
	p.ack(3, 1)
	want(0, 0, 0)
}

// P15.6: a nil Queue tells nothing of all this.
func TestNil(t *testing.T) {
	var q *sendq.Queue
	for _, n := range append(drawn(154, 20), firsts...) {
		if got, ok := q.State(n); got != 0 || ok {
			t.Errorf("State(%d) is %d, %v", n, got, ok)
		}
		for _, blocks := range [][]api.Block{nil, {block(1, 65535)}} {
			if r, ok := q.Ack(n, blocks, int(n)); r != (sendq.Result{}) || ok {
				t.Errorf("Ack(%d) is %v, %v", n, r, ok)
			}
		}
	}
	for _, n := range []int{least, -1, 0, 1, 1000, greatest} {
		if l := q.Take(n, n); len(l) != 0 {
			t.Errorf("Take is %v", l)
		}
		if got := q.Expire(n); got != 0 {
			t.Errorf("Expire is %d", got)
		}
	}
	if n, skips, ok := q.Forward(); n != 0 || len(skips) != 0 || ok {
		t.Errorf("Forward is %d, %v, %v", n, skips, ok)
	}
	if q.Timeout() != 0 || q.Floor() != 0 || q.Next() != 0 || q.Flying() != 0 || q.Left() != 0 || q.Len() != 0 {
		t.Errorf("Timeout, Floor, Next, Flying, Left, Len are not 0")
	}
}
