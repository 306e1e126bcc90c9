package tlv_test

import (
	"bytes"
	"testing"

	"bollard/api"
	"bollard/tlv"
)

// checkFind asks at which place the first one of a kind stands.
func checkFind(t *testing.T, l []api.Param, kind uint16, want int) {
	t.Helper()
	before := copied(l)
	if got := tlv.Find(l, kind); got != want {
		t.Errorf("Find of %d among %d: %d, want %d", kind, len(l), got, want)
	}
	if !alike(l, before) {
		t.Errorf("Find of %d changed what was handed in", kind)
	}
}

// P6.3: a kind that there is once is found at its place, wherever that is.
func TestFindOnce(t *testing.T) {
	for i, kind := range kinds {
		var l []api.Param
		for _, k := range kinds {
			l = append(l, api.Param{Kind: k, V: value(3)})
		}
		checkFind(t, l, kind, i)
		checkFind(t, l[i:], kind, 0)
		checkFind(t, l[:i+1], kind, i)
		checkFind(t, l[:i], kind, -1)
		checkFind(t, l[i+1:], kind, -1)
	}
}

// P6.3: of several of a kind the first one is found, whatever their values are.
func TestFindSeveral(t *testing.T) {
	l := []api.Param{{Kind: 3}, {Kind: 7, V: []byte{1}}, {Kind: 3, V: []byte{2}}, {Kind: 7}, {Kind: 7, V: []byte{3, 4}}}
	checkFind(t, l, 3, 0)
	checkFind(t, l, 7, 1)
	checkFind(t, l[2:], 7, 1)
	checkFind(t, l[3:], 7, 0)
	checkFind(t, l[1:], 3, 1)
	checkFind(t, make([]api.Param, 40), 0, 0)
}

// P6.3: a kind that there is not is at -1; neither a value nor a kind that is alike in one octet is taken for it.
func TestFindNone(t *testing.T) {
	for _, kind := range kinds {
		checkFind(t, nil, kind, -1)
		checkFind(t, []api.Param{}, kind, -1)
		l := []api.Param{{Kind: kind ^ 1}, {Kind: kind ^ 256}, {Kind: kind ^ 32768}, {Kind: ^kind, V: []byte{byte(kind >> 8), byte(kind)}}, {Kind: kind<<8 | kind>>8 ^ 1}}
		for _, p := range l {
			if p.Kind != kind {
				checkFind(t, []api.Param{p}, kind, -1)
			}
		}
	}
}

// P6.3: it is found among more and longer ones than Encode takes (R4).
func TestFindAmongMany(t *testing.T) {
	l := make([]api.Param, 5000)
	for i := range l {
		l[i].Kind = uint16(i)
	}
	l[4000].V = make([]byte, 100000)
	for _, i := range []int{0, 31, 32, 33, 4000, 4999} {
		checkFind(t, l, uint16(i), i)
	}
	checkFind(t, l, 5000, -1)
}

// P6.3: the two highest bits of every kind of a parameter, the others as they like.
func TestAction(t *testing.T) {
	for kind := range 65536 {
		pass, report := tlv.Action(uint16(kind))
		if want := kind < 32768; pass != want {
			t.Errorf("Action(%d): not looked at: %v, want %v", kind, pass, want)
		}
		if want := kind%32768 >= 16384; report != want {
			t.Errorf("Action(%d): reported: %v, want %v", kind, report, want)
		}
	}
	if pass, report := tlv.Action(49152); pass || !report {
		t.Errorf("the chapter's example: %v, %v", pass, report)
	}
}

// P6.3: the two highest bits of every kind of a chunk.
func TestChunkAction(t *testing.T) {
	for kind := range 256 {
		pass, report := tlv.ChunkAction(uint8(kind))
		if want := kind < 128; pass != want {
			t.Errorf("ChunkAction(%d): not looked at: %v, want %v", kind, pass, want)
		}
		if want := kind%128 >= 64; report != want {
			t.Errorf("ChunkAction(%d): reported: %v, want %v", kind, report, want)
		}
	}
	if pass, report := tlv.ChunkAction(64); !pass || !report {
		t.Errorf("the chapter's example: %v, %v", pass, report)
	}
}

// P6.3: one pair of bits has one action, in a parameter and in a chunk, as a plain table has it.
func TestActionPairs(t *testing.T) {
	for pair, want := range [4][2]bool{{true, false}, {true, true}, {false, false}, {false, true}} {
		for _, low := range []int{0, 1, 21, 42, 63} {
			a, b := tlv.ChunkAction(uint8(pair<<6 + low))
			if a != want[0] || b != want[1] {
				t.Errorf("ChunkAction of the bits %d and %d: %v, %v", pair, low, a, b)
			}
		}
		for _, low := range []int{0, 1, 255, 256, 8192, 16383} {
			a, b := tlv.Action(uint16(pair<<14 + low))
			if a != want[0] || b != want[1] {
				t.Errorf("Action of the bits %d and %d: %v, %v", pair, low, a, b)
			}
		}
	}
}

// R3: what Find is handed keeps the memory behind it, too.
func TestFindLeavesWhatStandsBehind(t *testing.T) {
	whole := []api.Param{{Kind: 1, V: []byte{5, 6}}, {Kind: 2}, {Kind: 3, V: []byte{7}}}
	checkFind(t, whole[:1], 2, -1)
	if whole[1].Kind != 2 || whole[1].V != nil || whole[2].Kind != 3 || !bytes.Equal(whole[2].V, []byte{7}) {
		t.Error(whole)
	}
}
