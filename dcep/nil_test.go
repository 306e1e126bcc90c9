package dcep_test

import (
	"slices"
	"testing"

	"bollard/api"
	"bollard/dcep"
)

// someMessages are messages of all sorts on a stream.
func someMessages(stream uint16) []api.Message {
	return []api.Message{{Stream: stream}, answers(stream), opens(stream, labelled("a")), {Stream: stream, Ppid: 50}, {Stream: stream, Ppid: 50, Data: []byte{9}}, says51(stream, "hi"), says51(stream, ""), {Stream: stream, Ppid: 56}, {Stream: stream, Ppid: 1<<32 - 1, Data: []byte{1}}}
}

// silent asks that a Table without streams tells nothing.
func silent(t *testing.T, table *dcep.Table) {
	t.Helper()
	for _, stream := range places() {
		for _, m := range someMessages(stream) {
			if v, b, err := table.Hear(m); !sameEvents(v, dcep.Event{}) || len(b) != 0 || err != api.ErrArg {
				t.Errorf("Hear(%#v) is %#v, %v, %v", m, v, b, err)
			}
		}
		if err := table.Close(stream); err != api.ErrClosed {
			t.Errorf("Close(%d) is %v", stream, err)
		}
		if table.Gone(stream) {
			t.Errorf("Gone(%d) is true", stream)
		}
		table.Freed(stream)
		if table.State(stream) != free || table.Opening(stream) != (dcep.Opening{}) {
			t.Errorf("of the stream %d: %d, %#v", stream, table.State(stream), table.Opening(stream))
		}
	}
	for _, label := range []string{"", "a", "\xff", long(300)} {
		if stream, there := table.Find(label); stream != 0 || there {
			t.Errorf("Find(%q) is %d, %v", label, stream, there)
		}
	}
}

// P18.3 to P18.5: all calls of a nil Table.
func TestNil(t *testing.T) {
	var table *dcep.Table
	all := append(someOpenings(), refusals()[api.ErrArg]...)
	for _, o := range append(all, refusals()[api.ErrLarge]...) {
		if stream, b, err := table.Ask(o); stream != 0 || len(b) != 0 || err != api.ErrArg {
			t.Errorf("Ask(%#v) is %d, %v, %v", o, stream, b, err)
		}
	}
	silent(t, table)
}

// P1: a Table that nobody made by New has no streams, and none of its calls panics.
func TestZeroValue(t *testing.T) {
	table := new(dcep.Table)
	for _, o := range someOpenings() {
		if stream, b, err := table.Ask(o); stream != 0 || len(b) != 0 || err != api.ErrFull {
			t.Errorf("Ask(%#v) is %d, %v, %v", o, stream, b, err)
		}
	}
	for err, l := range refusals() {
		for _, o := range l {
			if _, _, got := table.Ask(o); got != err {
				t.Errorf("Ask(%#v) is %v, want %v", o, got, err)
			}
		}
	}
	silent(t, table)
}

// The states, and what is told, have the chapter's numbers.
func TestNumbers(t *testing.T) {
	states := []int{dcep.Free, dcep.Asked, dcep.Open, dcep.Closing}
	told := []int{dcep.Nothing, dcep.Opened, dcep.Ready, dcep.Came}
	if want := []int{0, 1, 2, 3}; !slices.Equal(states, want) || !slices.Equal(told, want) {
		t.Errorf("the states are %v, what is told %v", states, told)
	}
}
