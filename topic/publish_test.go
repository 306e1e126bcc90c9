package topic_test

import (
	"bytes"
	"testing"

	"bollard/api"
	"bollard/topic"
)

// sets are those of some parties: all, where there are few, else such as have few in, and such as leave few out.
func sets(parties int) []int {
	var l []int
	for set := range min(1<<parties, 100) {
		l = append(l, set, 1<<parties-1-set)
	}
	return l
}

// P19.3: to nobody, to one, to some, to all; the publishing party gets nothing of its own.
func TestPublishTo(t *testing.T) {
	for _, parties := range []int{1, 2, 5, 16} {
		for from := range parties {
			for _, set := range sets(parties) {
				p := joined(t, parties, 4)
				want := 0
				for party := range parties {
					if set>>party&1 == 0 {
						continue
					}
					p.subscribe(party, "a", party%3)
					if party != from {
						want++
					}
				}
				if n := p.says(from, "a"); n != want {
					t.Fatalf("of %d, from %d, to %b: %d took it, want %d", parties, from, set, n, want)
				}
				for party := range parties {
					if item, there := p.pull(party); there && item.From != from {
						t.Fatalf("%d pulls what is from %d, want %d", party, item.From, from)
					}
				}
			}
		}
	}
}

// P19.3: what a party publishes itself neither waits for it, nor lets its subscription fail, nor is lost.
func TestPublishToOneself(t *testing.T) {
	for _, mode := range modes {
		p := joined(t, 2, 1)
		p.subscribe(0, "a", mode)
		for range 3 {
			if n := p.says(0, "a"); n != 0 {
				t.Errorf("%d took it", n)
			}
		}
		p.says(1, "a")
		p.says(0, "a")
		if p.relay.Failed(0, "a") || p.relay.Lost(0) != 0 {
			t.Errorf("mode %d: %v, %d", mode, p.relay.Failed(0, "a"), p.relay.Lost(0))
		}
		p.pulls(0, "a 3")
	}
}

// P19.3: all of an item is told as it was.
func TestPublishedItem(t *testing.T) {
	data := [][]byte{nil, {}, {0}, {255}, []byte("hi"), bytes.Repeat([]byte{1, 2, 3, 4}, 4096), bytes.Repeat([]byte{9}, 16383)}
	for _, name := range topics {
		for _, text := range []bool{true, false} {
			p := joined(t, 16, 8)
			p.subscribe(7, name, ordered)
			for i, b := range data {
				if n, err := p.publish(i+8, name, text, b); n != 1 || err != api.OK {
					t.Fatalf("Publish is %d, %v", n, err)
				}
			}
			for i, b := range data {
				want := topic.Item{Topic: name, From: i + 8, Number: i, Text: text, Data: b}
				if item, there := p.pull(7); !sameItems(item, want) || !there {
					t.Fatalf("Pull is %s, want %s", told(item), told(want))
				}
			}
		}
	}
}

// P19.3: the lengths of data.
func TestPublishLengthsOfData(t *testing.T) {
	for _, n := range []int{0, 1, 255, 256, 257, 1200, 16383, 16384, 16385, 16386, 32768, 65535, 65536, 65537, 1 << 20} {
		want, taken := api.OK, 1
		if n > 16384 {
			want, taken = api.ErrLarge, 0
		}
		p := joined(t, 2, 2)
		p.subscribe(1, "a", ordered)
		got, err := p.publish(0, "a", false, bytes.Repeat([]byte{7}, n))
		if got != taken || err != want {
			t.Errorf("of %d octets: %d, %v", n, got, err)
		}
	}
}

// P19.3: the lengths of topics.
func TestPublishLengthsOfTopics(t *testing.T) {
	for _, n := range []int{0, 1, 2, 254, 255, 256, 257, 258, 511, 512, 513, 65535, 65536, 65537, 65792} {
		want := api.OK
		if n == 0 {
			want = api.ErrArg
		} else if n > 256 {
			want = api.ErrLarge
		}
		p := joined(t, 2, 2)
		_, err := p.publish(0, long(n), false, nil)
		p.want(err, want)
	}
}

// P19.3: parties that are none, or have not joined.
func TestPublishOfNobody(t *testing.T) {
	p := start(t, 3, 2)
	p.join(1)
	p.subscribe(1, "a", ordered)
	for _, party := range append([]int{3, 4}, outside...) {
		_, err := p.publish(party, "a", true, []byte("hi"))
		p.want(err, api.ErrArg)
	}
	for _, party := range []int{0, 2} {
		_, err := p.publish(party, "a", true, []byte("hi"))
		p.want(err, api.ErrClosed)
	}
	p.join(0)
	p.leave(0)
	_, err := p.publish(0, "a", true, []byte("hi"))
	p.want(err, api.ErrClosed)
	p.pulls(1)
	if n := p.relay.Count("a"); n != 0 {
		t.Errorf("Count is %d", n)
	}
}

// P19.3: of several faults the one that is named first.
func TestPublishSeveralFaults(t *testing.T) {
	p := start(t, 2, 1)
	p.join(0)
	large, octets := long(257), make([]byte, 16385)
	for _, x := range []struct {
		party int
		name  string
		data  []byte
		want  api.Errno
	}{
		{2, large, octets, api.ErrArg}, {-1, "a", octets, api.ErrArg}, {2, "", nil, api.ErrArg},
		{0, "", octets, api.ErrArg}, {1, "", octets, api.ErrArg}, {1, "", nil, api.ErrArg},
		{1, large, nil, api.ErrLarge}, {1, "a", octets, api.ErrLarge}, {1, large, octets, api.ErrLarge}, {0, large, octets, api.ErrLarge},
		{1, "a", nil, api.ErrClosed},
	} {
		n, err := p.publish(x.party, x.name, true, x.data)
		p.want(err, x.want)
		if n != 0 {
			t.Errorf("beside an error %d took it", n)
		}
	}
}

// P19.3: what is refused is neither numbered, nor handed to anybody.
func TestRefusedIsNotHanded(t *testing.T) {
	for _, mode := range modes {
		p := joined(t, 3, 1)
		p.leave(2)
		p.subscribe(1, "a", mode)
		refuse := func() {
			p.publish(2, "a", true, nil)
			p.publish(3, "a", true, nil)
			p.publish(0, "a", true, make([]byte, 16385))
			p.publish(0, "", true, nil)
			p.publish(0, long(257), true, nil)
		}
		refuse()
		p.says(0, "a")
		refuse()
		if p.relay.Failed(1, "a") || p.relay.Lost(1) != 0 || p.relay.Count("a") != 1 {
			t.Errorf("mode %d: %v, %d, %d", mode, p.relay.Failed(1, "a"), p.relay.Lost(1), p.relay.Count("a"))
		}
		p.pulls(1, "a 0")
		refuse()
		p.says(0, "a")
		p.pulls(1, "a 1")
	}
}

// P19.3, Words: an item's number is how many were published to its topic ahead of it, by whomever, whether anybody took them or not.
func TestNumbers(t *testing.T) {
	p := joined(t, 3, 2)
	p.says(0, "a")
	p.says(2, "b")
	p.says(1, "a")
	p.subscribe(1, "a", ordered)
	p.subscribe(2, "b", newest)
	p.says(1, "a")
	p.says(0, "a")
	p.says(2, "b")
	p.says(2, "a")
	p.says(0, "a")
	p.pulls(1, "a 3", "a 4")
	p.says(0, "a")
	p.leave(0)
	p.leave(1)
	p.says(2, "a")
	p.join(1)
	p.subscribe(1, "a", oldest)
	p.subscribe(1, "b", oldest)
	p.says(2, "a")
	p.says(2, "b")
	p.pulls(1, "a 8", "b 2")
	p.says(1, "b")
	p.pulls(2, "b 3")
	if p.relay.Count("a") != 9 || p.relay.Count("b") != 4 {
		t.Errorf("Count is %d, %d", p.relay.Count("a"), p.relay.Count("b"))
	}
}

// P19.3: topics that are nearly the same are not.
func TestTopicsAreTold(t *testing.T) {
	for _, one := range topics {
		for _, other := range topics {
			p := joined(t, 2, 2)
			p.subscribe(1, one, ordered)
			want := 0
			if one == other {
				want = 1
			}
			if n := p.says(0, other); n != want {
				t.Errorf("of %q: %d took what was published to %q", one, n, other)
			}
		}
	}
}
