package octet_test

import (
	"bytes"
	"testing"

	"bollard/octet"
)

// puts are all calls that put, each with a number and what it is in octets.
var puts = []struct {
	name string
	put  func(b []byte) []byte
	want []byte
}{
	{"Put8 of 0", func(b []byte) []byte { return octet.Put8(b, 0) }, []byte{0}},
	{"Put8 of 1", func(b []byte) []byte { return octet.Put8(b, 1) }, []byte{1}},
	{"Put8 of the greatest", func(b []byte) []byte { return octet.Put8(b, 255) }, []byte{255}},
	{"Put16 of 0", func(b []byte) []byte { return octet.Put16(b, 0) }, []byte{0, 0}},
	{"Put16 of 255", func(b []byte) []byte { return octet.Put16(b, 255) }, []byte{0, 255}},
	{"Put16 of 258", func(b []byte) []byte { return octet.Put16(b, 258) }, []byte{1, 2}},
	{"Put16 of the greatest", func(b []byte) []byte { return octet.Put16(b, 65535) }, []byte{255, 255}},
	{"Put32 of 0", func(b []byte) []byte { return octet.Put32(b, 0) }, []byte{0, 0, 0, 0}},
	{"Put32 of 65536", func(b []byte) []byte { return octet.Put32(b, 65536) }, []byte{0, 1, 0, 0}},
	{"Put32 of 16909060", func(b []byte) []byte { return octet.Put32(b, 16909060) }, []byte{1, 2, 3, 4}},
	{"Put32 of the highest bit", func(b []byte) []byte { return octet.Put32(b, 1<<31) }, []byte{128, 0, 0, 0}},
	{"Put32 of the greatest", func(b []byte) []byte { return octet.Put32(b, 1<<32-1) }, []byte{255, 255, 255, 255}},
}

// P1.1: b, and behind it the number, the highest octet first.
func TestPut(t *testing.T) {
	for _, p := range puts {
		for _, b := range [][]byte{nil, {}, {9}, {9, 0, 8, 255, 7}} {
			want := append(bytes.Clone(b), p.want...)
			if got := p.put(b); !bytes.Equal(got, want) {
				t.Errorf("%s behind %v: %v, want %v", p.name, b, got, want)
			}
		}
	}
}

// P1.1: b, and as many octets 0 as make its length a multiple of 4.
func TestPad(t *testing.T) {
	for n := range 13 {
		b := bytes.Repeat([]byte{7}, n)
		got := octet.Pad(b)
		if len(got)%4 != 0 || len(got) < n || len(got) > n+3 {
			t.Errorf("Pad of %d octets: %d octets", n, len(got))
			continue
		}
		if !bytes.Equal(got[:n], b) || !bytes.Equal(got[n:], make([]byte, len(got)-n)) {
			t.Errorf("Pad of %d octets: %v", n, got)
		}
	}
	if got := octet.Pad(nil); len(got) != 0 {
		t.Errorf("Pad of nil: %v", got)
	}
	if got := octet.Pad([]byte{1, 2}); !bytes.Equal(got, []byte{1, 2, 0, 0}) {
		t.Errorf("the chapter's example: %v", got)
	}
}

// P1.1 and R3: neither what is handed in nor the memory behind it is touched, and the answer shares none of it.
func TestPutIsNewMemory(t *testing.T) {
	calls := map[string]func([]byte) []byte{"Pad": octet.Pad}
	for _, p := range puts {
		calls[p.name] = p.put
	}
	for name, call := range calls {
		for n := range 9 {
			for _, room := range []int{0, 1, 8} {
				checkNewMemory(t, name, call, n, room)
			}
		}
	}
}

// checkNewMemory makes the call on n octets that have room octets of capacity behind them.
func checkNewMemory(t *testing.T, name string, call func([]byte) []byte, n, room int) {
	t.Helper()
	whole := bytes.Repeat([]byte{99}, n+room)
	before := bytes.Clone(whole)
	got := call(whole[:n])
	if !bytes.Equal(whole, before) {
		t.Errorf("%s behind %d octets with room for %d: what was handed in became %v", name, n, room, whole)
	}
	kept := bytes.Clone(got)
	for i := range whole {
		whole[i] = 42
	}
	if !bytes.Equal(got, kept) {
		t.Errorf("%s behind %d octets with room for %d: the answer changes with what was handed in", name, n, room)
	}
	for i := range got {
		got[i] = 43
	}
	_ = append(got, 43)
	if !bytes.Equal(whole, bytes.Repeat([]byte{42}, n+room)) {
		t.Errorf("%s behind %d octets with room for %d: what was handed in changes with the answer", name, n, room)
	}
}

// R3: two answers from the same octets share nothing.
func TestPutTwice(t *testing.T) {
	b := make([]byte, 3, 16)
	one, two := octet.Put8(b, 1), octet.Put8(b, 2)
	three := octet.Pad(b)
	if one[3] != 1 || two[3] != 2 || three[3] != 0 {
		t.Error(one, two, three)
	}
}
