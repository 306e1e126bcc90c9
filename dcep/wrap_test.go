package dcep_test

import (
	"bytes"
	"math"
	"slices"
	"testing"

	"bollard/dcep"
)

// checkWrap asks for what is sent of a text, or of octets, and that it comes back.
func checkWrap(t *testing.T, text bool, b []byte) (uint32, []byte) {
	t.Helper()
	memory := append(slices.Clone(b), 7, 7)
	whole := slices.Clone(memory)
	ppid, out := dcep.Wrap(text, memory[:len(b)])
	if !bytes.Equal(memory, whole) {
		t.Errorf("Wrap(%v, %v): the octets became %v", text, b, memory)
	}
	turn(memory)
	if want, octets := wrapped(text, b); ppid != want || !bytes.Equal(out, octets) {
		t.Errorf("Wrap(%v, %v) is %d, %v, want %d, %v", text, b, ppid, out, want, octets)
	}
	if is, back, ok := checkUnwrap(t, ppid, out); is != text || !bytes.Equal(back, b) || !ok {
		t.Errorf("there and back %v, %v is %v, %v, %v", text, b, is, back, ok)
	}
	return ppid, out
}

// checkUnwrap asks for what was sent.
func checkUnwrap(t *testing.T, ppid uint32, b []byte) (bool, []byte, bool) {
	t.Helper()
	memory := append(slices.Clone(b), 7, 7)
	whole := slices.Clone(memory)
	text, out, ok := dcep.Unwrap(ppid, memory[:len(b)])
	if !bytes.Equal(memory, whole) {
		t.Errorf("Unwrap(%d, %v): the octets became %v", ppid, b, memory)
	}
	turn(memory)
	if want, octets, is := unwrapped(ppid, b); text != want || !bytes.Equal(out, octets) || ok != is {
		t.Errorf("Unwrap(%d, %v) is %v, %v, %v, want %v, %v, %v", ppid, b, text, out, ok, want, octets, is)
	}
	return text, out, ok
}

// somethings are octets that are sent, and none.
func somethings() [][]byte {
	l := [][]byte{nil, {}, {0}, {2}, {255}, {0, 0}, []byte("hi"), []byte("gr\u00fc\u00dfe"), {255, 254}, {3, 0, 0, 0, 0, 0, 0, 0, 0, 0, 0, 0}, make([]byte, 16384), make([]byte, 100000)}
	for _, text := range noTexts {
		l = append(l, []byte(text))
	}
	return l
}

// P18.2: text and octets, empty and not; the chapter's example.
func TestWrap(t *testing.T) {
	for _, b := range somethings() {
		for _, text := range []bool{true, false} {
			checkWrap(t, text, b)
		}
	}
	for _, x := range []struct {
		text bool
		b    string
		ppid uint32
		want string
	}{{true, "", 56, "\x00"}, {false, "", 57, "\x00"}, {true, "hi", 51, "hi"}, {false, "hi", 53, "hi"}, {true, "\x00", 51, "\x00"}, {false, "\x00", 53, "\x00"}} {
		if ppid, b := checkWrap(t, x.text, []byte(x.b)); ppid != x.ppid || string(b) != x.want {
			t.Errorf("Wrap(%v, %q) is %d, %q, want %d, %q", x.text, x.b, ppid, b, x.ppid, x.want)
		}
	}
}

// P18.2: each PPID from 0 to 60, and others, the greatest among them: of four of them there is something.
func TestUnwrap(t *testing.T) {
	ppids := []uint32{255, 256, 256 + 51, 65536 + 51, 1<<24 + 53, 51 << 8, 51 << 16, 51 << 24, 56 << 24, 1 << 31, 1<<31 + 56, math.MaxUint32 - 1, math.MaxUint32}
	for ppid := range uint32(61) {
		ppids = append(ppids, ppid)
	}
	for _, ppid := range ppids {
		for _, b := range somethings() {
			text, out, ok := checkUnwrap(t, ppid, b)
			filled := (ppid == 51 || ppid == 53) && len(b) > 0
			if ok != (filled || ppid == 56 || ppid == 57) || text != (ok && (ppid == 51 || ppid == 56)) || len(out) > 0 != filled {
				t.Errorf("Unwrap(%d, %v) is %v, %v, %v", ppid, b, text, out, ok)
			}
		}
	}
}

// P18.2: what stands behind 56 and 57 is not looked at, be it none, another octet than 0, or many.
func TestUnwrapNothing(t *testing.T) {
	for _, b := range somethings() {
		for ppid, want := range map[uint32]bool{56: true, 57: false} {
			if text, out, ok := checkUnwrap(t, ppid, b); text != want || len(out) != 0 || !ok {
				t.Errorf("Unwrap(%d, %v) is %v, %v, %v", ppid, b, text, out, ok)
			}
		}
	}
}

// R3: what is answered is new memory, each time.
func TestWrapIsNewMemory(t *testing.T) {
	for _, b := range [][]byte{nil, []byte("hi")} {
		for _, text := range []bool{true, false} {
			_, one := dcep.Wrap(text, b)
			ppid, two := dcep.Wrap(text, b)
			_, back, _ := dcep.Unwrap(ppid, two)
			_, again, _ := dcep.Unwrap(ppid, two)
			turn(one)
			turn(back)
			if _, want := wrapped(text, b); !bytes.Equal(two, want) || !bytes.Equal(again, b) {
				t.Errorf("%v of %v: another answer became %v, %v", text, b, two, again)
			}
			turn(two)
			if !bytes.Equal(again, b) {
				t.Errorf("%v of %v: an answer became %v", text, b, again)
			}
		}
	}
}
