package dcep_test

import (
	"bytes"
	"slices"
	"testing"
	"unsafe"

	"bollard/api"
	"bollard/dcep"
)

// R3: the octets of an opening that was heard are neither changed nor kept: turning them later changes nothing that is told, nor does turning what was told.
func TestHeardOctetsAreNotKept(t *testing.T) {
	table := dcep.New(true, 4)
	memory := append(laid(labelled("chat")), 2, 2, 2)
	whole := slices.Clone(memory)
	v, b, err := table.Hear(api.Message{Stream: 1, Ppid: 50, Data: memory[:len(memory)-3]})
	if v.Opening != labelled("chat") || !bytes.Equal(b, []byte{2}) || err != api.OK || !bytes.Equal(memory, whole) {
		t.Fatalf("Hear is %#v, %v, %v, the octets became %v", v, b, err, memory)
	}
	turn(memory)
	turn(b)
	if v.Opening != labelled("chat") || table.Opening(1) != labelled("chat") {
		t.Errorf("the opening became %#v, %#v", v.Opening, table.Opening(1))
	}
	if stream, there := table.Find("chat"); stream != 1 || !there {
		t.Errorf("Find is %d, %v", stream, there)
	}
	if _, b, _ := table.Hear(api.Message{Stream: 3, Ppid: 50, Data: laid(labelled("more"))}); !bytes.Equal(b, []byte{2}) {
		t.Errorf("another one is answered by %v", b)
	}
}

// R3: the octets that are said are neither changed nor kept; what is told of two is memory of two.
func TestSaidOctetsAreNotKept(t *testing.T) {
	table := dcep.New(true, 4)
	table.Ask(labelled("chat"))
	memory := []byte("hi there")
	one, _, _ := table.Hear(api.Message{Ppid: 51, Data: memory[:2]})
	two, _, _ := table.Hear(api.Message{Ppid: 51, Data: memory[:2]})
	turn(one.Data)
	if string(memory) != "hi there" || string(two.Data) != "hi" {
		t.Errorf("what was handed in became %q, what is told of another one %q", memory, two.Data)
	}
	turn(memory)
	if string(two.Data) != "hi" {
		t.Errorf("what was told became %q", two.Data)
	}
}

// R3: the octets that Ask tells are told once: turning them changes neither the opening nor what is told later.
func TestAskedOctetsAreNotKept(t *testing.T) {
	table := dcep.New(false, 6)
	_, one, _ := table.Ask(labelled("chat"))
	want := slices.Clone(one)
	turn(one)
	_, two, _ := table.Ask(labelled("chat"))
	if !bytes.Equal(two, want) || table.Opening(1) != labelled("chat") {
		t.Errorf("Ask is %v, Opening %#v", two, table.Opening(1))
	}
	turn(two)
	if v, _, _ := table.Hear(answers(3)); v.Opening != labelled("chat") {
		t.Errorf("Ready is told of %#v", v.Opening)
	}
}

// R3: the texts of an opening that was asked for are kept in memory of their own, as they may be pieces of a far longer one.
func TestAskedTextsAreNotKept(t *testing.T) {
	whole := long(100)
	o := dcep.Opening{Label: whole[:4], Protocol: whole[4:9]}
	table := dcep.New(true, 1)
	table.Ask(o)
	kept := table.Opening(0)
	if kept != o || unsafe.StringData(kept.Label) == unsafe.StringData(o.Label) || unsafe.StringData(kept.Protocol) == unsafe.StringData(o.Protocol) {
		t.Errorf("Opening is %#v, or it is what was handed in", kept)
	}
}

// R3: what was told of a channel stays, whatever becomes of its stream.
func TestToldStays(t *testing.T) {
	table := dcep.New(true, 2)
	v, _, _ := table.Hear(api.Message{Stream: 1, Ppid: 50, Data: laid(labelled("chat"))})
	said, _, _ := table.Hear(says51(1, "hi"))
	o := table.Opening(1)
	table.Gone(1)
	table.Freed(1)
	table.Hear(opens(1, labelled("more")))
	table.Hear(says51(1, "other"))
	if v.Opening != labelled("chat") || o != labelled("chat") || string(said.Data) != "hi" {
		t.Errorf("what was told became %#v, %#v, %q", v.Opening, o, said.Data)
	}
}

// R3: two Tables share nothing.
func TestTablesShareNothing(t *testing.T) {
	one, two := dcep.New(true, 4), dcep.New(true, 4)
	one.Ask(labelled("chat"))
	one.Hear(opens(1, labelled("more")))
	for stream := range uint16(4) {
		if two.State(stream) != free {
			t.Errorf("State(%d) is %d", stream, two.State(stream))
		}
	}
	if stream, _, err := two.Ask(labelled("a")); stream != 0 || err != api.OK {
		t.Errorf("Ask is %d, %v", stream, err)
	}
	if one.Opening(0) != labelled("chat") {
		t.Errorf("Opening is %#v", one.Opening(0))
	}
}
