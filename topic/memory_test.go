package topic_test

import (
	"bytes"
	"slices"
	"testing"

	"bollard/api"
	"bollard/topic"
)

// hears is a Relay all of whose parties have joined and, but for the party 0, have subscribed to "a".
func hears(parties, mode int) *topic.Relay {
	relay := topic.New(parties, 4)
	for party := range parties {
		relay.Join(party)
		if party > 0 {
			relay.Subscribe(party, "a", mode)
		}
	}
	return relay
}

// R3: the octets that are published are neither changed nor kept: turning them later changes nothing that is told.
func TestPublishedOctetsAreNotKept(t *testing.T) {
	for _, mode := range modes {
		relay := hears(3, mode)
		memory := []byte("hi there")
		for i := range 4 {
			relay.Publish(0, "a", true, memory[2*i:2*i+2])
		}
		if string(memory) != "hi there" {
			t.Errorf("what was handed in became %q", memory)
		}
		turn(memory)
		for party := 1; party < 3; party++ {
			for _, want := range []string{"hi", " t", "he", "re"} {
				if item, _ := relay.Pull(party); string(item.Data) != want {
					t.Errorf("%d pulls %q, want %q", party, item.Data, want)
				}
			}
		}
	}
}

// R3: turning what was told to one party changes nothing that is told to another one, then or before.
func TestToldOctetsAreOnesOwn(t *testing.T) {
	for _, mode := range modes {
		relay := hears(16, mode)
		for _, n := range []int{0, 1, 2, 8, 100, 16384} {
			data := bytes.Repeat([]byte{5}, n)
			relay.Publish(0, "a", false, data)
			var items []topic.Item
			for party := 1; party < 16; party++ {
				item, _ := relay.Pull(party)
				if !bytes.Equal(item.Data, data) {
					t.Fatalf("%d octets: %d pulls %s", n, party, told(item))
				}
				items = append(items, item)
				if party%2 == 0 {
					turn(item.Data)
				}
			}
			for i, item := range items {
				if i%2 == 0 && !bytes.Equal(item.Data, data) {
					t.Fatalf("%d octets: what %d pulled became %s", n, i+1, told(item))
				}
			}
			if !slices.Equal(data, bytes.Repeat([]byte{5}, n)) {
				t.Fatalf("what was handed in became %v", data)
			}
		}
	}
}

// R3: turning what was told changes nothing that the same party is told later.
func TestToldOctetsAreToldOnce(t *testing.T) {
	relay := hears(2, ordered)
	memory := []byte("abcd")
	for i := range 4 {
		relay.Publish(0, "a", true, memory[i:i+1])
	}
	for _, want := range []string{"a", "b", "c", "d"} {
		item, _ := relay.Pull(1)
		if string(item.Data) != want {
			t.Errorf("Pull is %q, want %q", item.Data, want)
		}
		turn(item.Data)
	}
}

// R3: what was told stays, whatever comes then.
func TestToldStays(t *testing.T) {
	for _, mode := range modes {
		relay := hears(2, mode)
		var items []topic.Item
		for i := range 40 {
			relay.Publish(0, "a", true, []byte{byte(i), 1, 2, 3})
			item, _ := relay.Pull(1)
			items = append(items, item)
		}
		relay.Drop(1, "a")
		relay.Leave(1)
		for i, item := range items {
			if want := (topic.Item{Topic: "a", Number: i, Text: true, Data: []byte{byte(i), 1, 2, 3}}); !sameItems(item, want) {
				t.Errorf("what was told became %s, want %s", told(item), told(want))
			}
		}
	}
}

// R3: topics are kept in memory of their own, as they may be pieces of far longer texts: what they were cut from may be turned.
func TestTopicsAreNotKept(t *testing.T) {
	relay := topic.New(3, 4)
	for party := range 3 {
		relay.Join(party)
	}
	for round := range 3 {
		for party := 1; party < 3; party++ {
			memory, name := lent("chat")
			if err := relay.Subscribe(party, name, ordered); err != api.OK {
				t.Fatalf("Subscribe is %v", err)
			}
			turn(memory)
		}
		memory, name := lent("chat")
		if n, err := relay.Publish(0, name, true, nil); n != 2 || err != api.OK {
			t.Fatalf("Publish is %d, %v", n, err)
		}
		turn(memory)
		for party := 1; party < 3; party++ {
			if item, _ := relay.Pull(party); item.Topic != "chat" || item.Number != round {
				t.Errorf("%d pulls %s", party, told(item))
			}
			if err := relay.Drop(party, "chat"); err != api.OK {
				t.Errorf("Drop is %v", err)
			}
		}
		if n := relay.Count("chat"); n != round+1 {
			t.Errorf("Count is %d", n)
		}
	}
}

// R3: one that fails, and is subscribed to anew, keeps nothing of what is handed in, either.
func TestTopicsOfFailedAreNotKept(t *testing.T) {
	relay := topic.New(2, 1)
	relay.Join(0)
	relay.Join(1)
	for range 3 {
		memory, name := lent("chat")
		if err := relay.Subscribe(1, name, ordered); err != api.OK {
			t.Fatalf("Subscribe is %v", err)
		}
		turn(memory)
		for range 2 {
			memory, name := lent("chat")
			relay.Publish(0, name, true, nil)
			turn(memory)
		}
		if !relay.Failed(1, "chat") {
			t.Fatalf("it did not fail")
		}
		relay.Pull(1)
	}
	if err := relay.Drop(1, "chat"); err != api.OK {
		t.Errorf("Drop is %v", err)
	}
}

// R3: two Relays share nothing.
func TestRelaysShareNothing(t *testing.T) {
	one, two := hears(2, ordered), topic.New(2, 4)
	for range 6 {
		one.Publish(0, "a", true, nil)
	}
	nothing(t, two, 1)
	if n, err := two.Count("a"), two.Leave(0); n != 0 || err != api.ErrClosed {
		t.Errorf("Count is %d, Leave %v", n, err)
	}
	two.Join(0)
	two.Join(1)
	if err := two.Drop(1, "a"); err != api.ErrName {
		t.Errorf("Drop is %v", err)
	}
	if !one.Failed(1, "a") || one.Waiting(1) != 4 {
		t.Errorf("Failed is %v, Waiting %d", one.Failed(1, "a"), one.Waiting(1))
	}
}
