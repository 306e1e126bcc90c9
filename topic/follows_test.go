package topic_test

import (
	"fmt"
	"math/rand"
	"slices"
	"testing"

	"bollard/api"
	"bollard/topic"
)

// The chapter's example.
func TestExample(t *testing.T) {
	relay := topic.New(2, 64)
	relay.Join(0)
	relay.Join(1)
	relay.Subscribe(1, "a", ordered)
	if n, err := relay.Publish(0, "a", true, []byte("hi")); n != 1 || err != api.OK {
		t.Errorf("Publish is %d, %v", n, err)
	}
	if item, there := relay.Pull(1); !sameItems(item, topic.Item{Topic: "a", Text: true, Data: []byte("hi")}) || !there {
		t.Errorf("Pull is %s, %v", told(item), there)
	}
}

// The document's example 9: room for two, three published to a topic that is heard in order: two are heard, the subscription failed.
func TestExampleOfTheDocument(t *testing.T) {
	p := joined(t, 2, 2)
	p.subscribe(1, "a", ordered)
	for _, want := range []int{1, 1, 0} {
		if n := p.says(0, "a"); n != want {
			t.Errorf("%d took it, want %d", n, want)
		}
	}
	if !p.relay.Failed(1, "a") {
		t.Errorf("it did not fail")
	}
	p.pulls(1, "a 0", "a 1")
}

// calls are those of a small Relay of two parties.
var calls = []func(p *pair){
	func(p *pair) { p.subscribe(1, "a", ordered) },
	func(p *pair) { p.subscribe(1, "a", newest) },
	func(p *pair) { p.subscribe(1, "a", oldest) },
	func(p *pair) { p.subscribe(1, "b", ordered) },
	func(p *pair) { p.subscribe(1, "b", oldest) },
	func(p *pair) { p.drop(1, "a") },
	func(p *pair) { p.publish(0, "a", true, []byte("x")) },
	func(p *pair) { p.publish(0, "b", false, []byte("y")) },
	func(p *pair) { p.publish(1, "a", false, nil) },
	func(p *pair) { p.pull(1) },
	func(p *pair) { p.leave(1); p.join(1) },
}

// P19.1 to P19.4: all rows of four calls, behind each of some leads, against the chapter's words.
func TestRows(t *testing.T) {
	leads := [][]int{{}, {0, 6, 6}, {0, 3, 7, 6}, {2, 4, 6, 7}, {1, 4, 7, 6}}
	rows := 1
	for range 4 {
		rows *= len(calls)
	}
	for room := 1; room <= 2; room++ {
		for _, lead := range leads {
			for row := range rows {
				p := joined(t, 2, room)
				for _, i := range lead {
					calls[i](p)
				}
				for rest := row; rest > 0; rest /= len(calls) {
					calls[rest%len(calls)](p)
				}
				if t.Failed() {
					t.Fatalf("room %d, behind %v the row %d", room, lead, row)
				}
			}
		}
	}
}

// drawnTopic is one of a few, seldom one that may not be.
func drawnTopic(draw *rand.Rand) string {
	if draw.Intn(50) == 0 {
		return []string{"", long(257), "none"}[draw.Intn(3)]
	}
	return []string{"a", "b", "c", "chat"}[draw.Intn(4)]
}

// step is one call of a script.
func step(p *pair, draw *rand.Rand) {
	party := draw.Intn(p.words.parties)
	if draw.Intn(60) == 0 {
		party = outside[draw.Intn(len(outside))]
	}
	name := drawnTopic(draw)
	switch n := draw.Intn(100); {
	case n < 3:
		p.leave(party)
	case n < 10:
		p.join(party)
	case n < 28:
		p.subscribe(party, name, draw.Intn(40)%4%3)
	case n < 29:
		p.subscribe(party, name, noModes[draw.Intn(len(noModes))])
	case n < 33:
		p.drop(party, name)
	case n < 75:
		p.publish(party, name, draw.Intn(2) == 0, make([]byte, draw.Intn(4)))
	default:
		p.pull(party)
	}
}

// P19.1 to P19.4: scripts of all calls, against the chapter's words; in the end all that waits is pulled.
func TestScripts(t *testing.T) {
	draw := rand.New(rand.NewSource(191))
	var failed, lost, waited int
	for range 1500 {
		p := joined(t, 1+draw.Intn(5), 1+draw.Intn(6))
		for range 150 {
			step(p, draw)
		}
		for party := range p.words.parties {
			for _, name := range p.names {
				if p.relay.Failed(party, name) {
					failed++
				}
			}
			lost += p.relay.Lost(party)
			for p.words.of(party).joined && p.relay.Waiting(party) > 0 {
				p.pull(party)
				waited++
			}
			p.pull(party)
		}
	}
	if failed == 0 || lost == 0 || waited == 0 {
		t.Errorf("%d failed, %d were lost, %d waited", failed, lost, waited)
	}
}

// run is a Relay whose party 2 hears "a" and "b" in order, what of these is to be pulled, and what was.
type run struct {
	t            *testing.T
	relay        *topic.Relay
	room         int
	said, pulled map[string][]string
}

// tells is an item as a text.
func tells(item topic.Item) string {
	return fmt.Sprint(item.From, " ", item.Number, " ", item.Text, " ", string(item.Data))
}

// says publishes an item. It is to be pulled, unless the subscription has failed, or fails by it, as no room is left.
func (r *run) says(item topic.Item) {
	failed, full := r.relay.Failed(2, item.Topic), r.relay.Waiting(2) == r.room
	item.Number = r.relay.Count(item.Topic)
	r.relay.Publish(item.From, item.Topic, item.Text, item.Data)
	fails := failed || full && item.From != 2
	if got := r.relay.Failed(2, item.Topic); got != fails {
		r.t.Fatalf("Failed is %v, want %v", got, fails)
	}
	if !fails && item.From != 2 {
		r.said[item.Topic] = append(r.said[item.Topic], tells(item))
	}
}

func (r *run) pulls() bool {
	item, there := r.relay.Pull(2)
	if there {
		r.pulled[item.Topic] = append(r.pulled[item.Topic], tells(item))
	}
	return there
}

// P19.5: what a party pulls of an Ordered topic is, from its subscription on, what others published, each once, in order, none left out, to the end, or up to where it failed.
func TestOrderedRuns(t *testing.T) {
	draw := rand.New(rand.NewSource(192))
	ends := map[bool]int{}
	for range 2000 {
		room := 1 + draw.Intn(5)
		r := &run{t, topic.New(3, room), room, map[string][]string{}, map[string][]string{}}
		for party := range 3 {
			r.relay.Join(party)
		}
		names := []string{"a", "b"}
		for i := range draw.Intn(3) {
			r.relay.Publish(0, names[i], true, nil)
		}
		r.relay.Subscribe(2, "a", ordered)
		r.relay.Subscribe(2, "b", ordered)
		for i := range 40 {
			r.says(topic.Item{Topic: names[draw.Intn(2)], From: draw.Intn(3), Text: i%2 == 0, Data: []byte(fmt.Sprint(i))})
			for range draw.Intn(3) {
				r.pulls()
			}
		}
		for r.pulls() {
		}
		for _, name := range names {
			if !slices.Equal(r.said[name], r.pulled[name]) {
				t.Fatalf("%q: pulled are %q, of %q", name, r.pulled[name], r.said[name])
			}
			ends[r.relay.Failed(2, name)]++
		}
	}
	if ends[false] == 0 || ends[true] == 0 {
		t.Errorf("%d came to the end, %d failed", ends[false], ends[true])
	}
}

// P19.5: of the other modes each at most once, in order; what was not pulled was Lost.
func TestOtherRuns(t *testing.T) {
	draw := rand.New(rand.NewSource(193))
	for range 1000 {
		for _, mode := range []int{newest, oldest} {
			relay := topic.New(2, 1+draw.Intn(5))
			relay.Join(0)
			relay.Join(1)
			relay.Subscribe(1, "a", mode)
			last, pulled := -1, 0
			for range 60 {
				if draw.Intn(3) > 0 {
					relay.Publish(0, "a", false, nil)
				} else if item, there := relay.Pull(1); there {
					if item.Number <= last {
						t.Fatalf("mode %d: %d is pulled behind %d", mode, item.Number, last)
					}
					last = item.Number
					pulled++
				}
			}
			if n := pulled + relay.Lost(1) + relay.Waiting(1); n != relay.Count("a") {
				t.Fatalf("mode %d: %d were published, %d pulled, %d are lost, %d wait", mode, relay.Count("a"), pulled, relay.Lost(1), relay.Waiting(1))
			}
			if relay.Failed(1, "a") {
				t.Fatalf("mode %d: it failed", mode)
			}
		}
	}
}

// P19.5: no party ever has more than room items; what nobody has subscribed to nobody gets.
func TestBounds(t *testing.T) {
	draw := rand.New(rand.NewSource(194))
	names := []string{"a", "b", "c", "d"}
	for range 500 {
		parties, room := 2+draw.Intn(15), 1+draw.Intn(64)
		relay := topic.New(parties, room)
		for party := range parties {
			relay.Join(party)
			for _, name := range names {
				if draw.Intn(3) > 0 && name != "d" {
					relay.Subscribe(party, name, draw.Intn(3))
				}
			}
		}
		for range 300 {
			if n, _ := relay.Publish(draw.Intn(parties), names[draw.Intn(4)], true, nil); n > parties-1 {
				t.Fatalf("%d of %d took it", n, parties)
			}
			if party := draw.Intn(parties); draw.Intn(4) == 0 {
				if item, _ := relay.Pull(party); item.Topic == "d" {
					t.Fatalf("%d pulls %s", party, told(item))
				}
			}
			for party := range parties {
				if n := relay.Waiting(party); n > room {
					t.Fatalf("%d wait, where there is room for %d", n, room)
				}
			}
		}
		for party := range parties {
			pulled := 0
			for item, there := relay.Pull(party); there; item, there = relay.Pull(party) {
				pulled++
				if item.Topic == "d" || item.From == party {
					t.Fatalf("%d pulls %s", party, told(item))
				}
			}
			if pulled > room {
				t.Fatalf("%d are pulled, where there is room for %d", pulled, room)
			}
		}
	}
}

// W3: nobody hears what is said on a topic that it had no subscription to then: neither ahead of it, nor behind a Drop.
func TestWhoHears(t *testing.T) {
	for _, mode := range modes {
		p := joined(t, 3, 4)
		p.says(0, "a")
		p.subscribe(1, "a", mode)
		p.says(0, "a")
		p.drop(1, "a")
		p.says(0, "a")
		p.says(0, "b")
		p.subscribe(1, "a", mode)
		p.says(2, "a")
		p.pulls(1, "a 3")
		p.pulls(2)
	}
}
