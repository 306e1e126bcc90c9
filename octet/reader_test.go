package octet_test

import (
	"bytes"
	"math"
	"testing"

	"bollard/api"
	"bollard/octet"
)

// gets are the calls that read a number, all of them told as 32 bits.
var gets = []struct {
	name string
	size int
	get  func(r *octet.Reader) (uint32, api.Errno)
}{
	{"Get8", 1, func(r *octet.Reader) (uint32, api.Errno) { v, e := r.Get8(); return uint32(v), e }},
	{"Get16", 2, func(r *octet.Reader) (uint32, api.Errno) { v, e := r.Get16(); return uint32(v), e }},
	{"Get32", 4, func(r *octet.Reader) (uint32, api.Errno) { return r.Get32() }},
}

// checkRest asks that exactly the octets of want are left, and reads them.
func checkRest(t *testing.T, name string, r *octet.Reader, want []byte) {
	t.Helper()
	if r.Left() != len(want) {
		t.Errorf("%s: %d octets left, want %d", name, r.Left(), len(want))
	}
	got, err := r.Bytes(len(want))
	if err != api.OK || !bytes.Equal(got, want) {
		t.Errorf("%s: %v is left (%v), want %v", name, got, err, want)
	}
}

// P1.2: a reader begins at the first octet, and tells how many are left.
func TestLeft(t *testing.T) {
	for n := range 9 {
		r := octet.New(make([]byte, n))
		for left := n; left > 0; left-- {
			if r.Left() != left {
				t.Errorf("of %d octets %d are left, want %d", n, r.Left(), left)
			}
			if _, err := r.Get8(); err != api.OK {
				t.Errorf("of %d octets, %d left: %v", n, left, err)
			}
		}
		if r.Left() != 0 {
			t.Errorf("of %d octets %d are left at the end", n, r.Left())
		}
	}
	if r := octet.New(nil); r == nil || r.Left() != 0 {
		t.Error("a reader of nil is none, or has octets")
	}
}

// P1.2: the next octets as a number, the highest first; what follows is left.
func TestGet(t *testing.T) {
	b := []byte{129, 2, 254, 4, 5, 6}
	want := map[int]uint32{1: 129, 2: 129<<8 | 2, 4: 129<<24 | 2<<16 | 254<<8 | 4}
	for _, g := range gets {
		r := octet.New(b)
		if v, err := g.get(r); v != want[g.size] || err != api.OK {
			t.Errorf("%s: %d, %v", g.name, v, err)
		}
		checkRest(t, g.name, r, b[g.size:])
		for _, edge := range []byte{0, 255} {
			v, err := g.get(octet.New(bytes.Repeat([]byte{edge}, g.size)))
			if most := uint32(1<<(8*g.size) - 1); err != api.OK || v != most/255*uint32(edge) {
				t.Errorf("%s of octets %d: %d, %v", g.name, edge, v, err)
			}
		}
	}
}

// P1.2: with fewer octets left than are needed the number is 0, and nothing is read.
func TestGetShort(t *testing.T) {
	for _, g := range gets {
		for left := range g.size {
			b := []byte{9, 8, 7, 6}[:left]
			r := octet.New(append([]byte{1, 2}, b...))
			r.Get16()
			for range 2 {
				if v, err := g.get(r); v != 0 || err != api.ErrShort {
					t.Errorf("%s with %d left: %d, %v", g.name, left, v, err)
				}
			}
			checkRest(t, g.name, r, b)
		}
	}
}

// P1.2: the next n octets.
func TestBytes(t *testing.T) {
	b := []byte{1, 2, 3, 4, 5}
	for n := range 6 {
		r := octet.New(b)
		if got, err := r.Bytes(n); err != api.OK || !bytes.Equal(got, b[:n]) {
			t.Errorf("Bytes(%d): %v, %v", n, got, err)
		}
		checkRest(t, "Bytes", r, b[n:])
		if got, err := r.Bytes(0); err != api.OK || len(got) != 0 {
			t.Errorf("Bytes(0) at the end: %v, %v", got, err)
		}
	}
}

// P1.2: below 0 it is ErrArg, above what is left ErrShort; nothing is answered, nothing is read.
func TestBytesWrong(t *testing.T) {
	b := []byte{1, 2, 3}
	for n, want := range map[int]api.Errno{
		-1: api.ErrArg, -4: api.ErrArg, math.MinInt: api.ErrArg,
		4: api.ErrShort, 5: api.ErrShort, math.MaxInt32: api.ErrShort, math.MaxInt: api.ErrShort,
	} {
		r := octet.New(b)
		if got, err := r.Bytes(n); got != nil || err != want {
			t.Errorf("Bytes(%d): %v, %v, want %v", n, got, err, want)
		}
		checkRest(t, "Bytes", r, b)
	}
	r := octet.New(nil)
	if got, err := r.Bytes(-1); got != nil || err != api.ErrArg {
		t.Errorf("Bytes(-1) with nothing left: %v, %v", got, err)
	}
	if got, err := r.Bytes(1); got != nil || err != api.ErrShort {
		t.Errorf("Bytes(1) with nothing left: %v, %v", got, err)
	}
}

// P1.2, P1.3: a nil reader has nothing, and every reading of it is ErrArg.
func TestNilReader(t *testing.T) {
	var r *octet.Reader
	if r.Left() != 0 {
		t.Error("Left:", r.Left())
	}
	for _, g := range gets {
		if v, err := g.get(r); v != 0 || err != api.ErrArg {
			t.Errorf("%s: %d, %v", g.name, v, err)
		}
	}
	for _, n := range []int{math.MinInt, -1, 0, 1, 4, math.MaxInt} {
		if b, err := r.Bytes(n); b != nil || err != api.ErrArg {
			t.Errorf("Bytes(%d): %v, %v", n, b, err)
		}
		if err := r.Pad(n); err != api.ErrArg {
			t.Errorf("Pad(%d): %v", n, err)
		}
	}
}

// R1: a reader that New did not make is one without octets.
func TestZeroReader(t *testing.T) {
	var r octet.Reader
	if r.Left() != 0 {
		t.Error("Left:", r.Left())
	}
	for _, g := range gets {
		if v, err := g.get(&r); v != 0 || err != api.ErrShort {
			t.Errorf("%s: %d, %v", g.name, v, err)
		}
	}
	if b, err := r.Bytes(0); len(b) != 0 || err != api.OK {
		t.Errorf("Bytes(0): %v, %v", b, err)
	}
	if err := r.Pad(4); err != api.OK {
		t.Errorf("Pad(4): %v", err)
	}
	if err := r.Pad(3); err != api.ErrShort {
		t.Errorf("Pad(3): %v", err)
	}
}

// missing is what P1.3 calls k, sought from 0 on.
func missing(n int) int {
	k := 0
	for (n%4+k)%4 != 0 {
		k++
	}
	return k
}

// P1.3: the octets that fill up are read, whatever stands behind them.
func TestReaderPad(t *testing.T) {
	for _, n := range []int{0, 1, 2, 3, 4, 5, 6, 7, 8, 1199, math.MaxInt32, math.MaxInt - 3, math.MaxInt - 2, math.MaxInt - 1, math.MaxInt} {
		for _, behind := range [][]byte{nil, {5}, {5, 0, 6}, {0, 0, 0, 0}} {
			r := octet.New(append(make([]byte, missing(n)), behind...))
			if err := r.Pad(n); err != api.OK {
				t.Errorf("Pad(%d) ahead of %v: %v", n, behind, err)
			}
			checkRest(t, "Pad", r, behind)
		}
	}
}

// P1.3: ErrShort ahead of ErrForm; ErrForm wherever the octet that is not 0 stands; nothing is read.
func TestReaderPadWrong(t *testing.T) {
	for n := range 9 {
		k := missing(n)
		for left := range k {
			for _, filler := range []byte{0, 1} {
				b := bytes.Repeat([]byte{filler}, left)
				checkPadError(t, n, b, api.ErrShort)
			}
		}
		for at := range k {
			for _, filler := range []byte{1, 128, 255} {
				b := make([]byte, k+2)
				b[at] = filler
				checkPadError(t, n, b[:k], api.ErrForm)
				checkPadError(t, n, b, api.ErrForm)
			}
		}
	}
	for _, n := range []int{-1, -2, -3, -4, math.MinInt} {
		checkPadError(t, n, nil, api.ErrArg)
		checkPadError(t, n, []byte{1}, api.ErrArg)
		checkPadError(t, n, make([]byte, 4), api.ErrArg)
	}
}

func checkPadError(t *testing.T, n int, b []byte, want api.Errno) {
	t.Helper()
	r := octet.New(b)
	for range 2 {
		if err := r.Pad(n); err != want {
			t.Errorf("Pad(%d) of %v: %v, want %v", n, b, err, want)
		}
	}
	checkRest(t, "Pad", r, b)
}

// R3: what was handed to New may change, and is not changed.
func TestNewKeepsItsOwn(t *testing.T) {
	whole := []byte{1, 2, 3, 4, 5, 6, 7, 8, 9}
	b := whole[:7]
	r := octet.New(b)
	r.Get8()
	for i := range whole {
		whole[i] = 77
	}
	checkRest(t, "New", r, []byte{2, 3, 4, 5, 6, 7})
	if !bytes.Equal(whole, bytes.Repeat([]byte{77}, len(whole))) {
		t.Error("what was handed in changed:", whole)
	}
}

// R3: what Bytes answers reaches neither what was handed in, nor what is still to be read, nor another answer.
func TestBytesIsNewMemory(t *testing.T) {
	b := []byte{1, 2, 3, 4, 5, 6, 7, 8}
	r := octet.New(b)
	again := *r
	one, _ := r.Bytes(3)
	for i := range one {
		one[i] = 99
	}
	_ = append(one, 99, 99, 99)
	two, _ := r.Bytes(2)
	if !bytes.Equal(two, []byte{4, 5}) || !bytes.Equal(one, []byte{99, 99, 99}) {
		t.Error(one, two)
	}
	checkRest(t, "behind an answer that was changed", r, []byte{6, 7, 8})
	checkRest(t, "a copy of the reader", &again, []byte{1, 2, 3, 4, 5, 6, 7, 8})
	if !bytes.Equal(b, []byte{1, 2, 3, 4, 5, 6, 7, 8}) {
		t.Error("what was handed in changed:", b)
	}
}

// R3: two readers of the same octets don't know of each other.
func TestTwoReaders(t *testing.T) {
	b := []byte{1, 2, 3}
	one, two := octet.New(b), octet.New(b)
	one.Get16()
	checkRest(t, "the second reader", two, b)
	checkRest(t, "the first reader", one, b[2:])
}
