package serial_test

import (
	"testing"

	"bollard/serial"
)

const (
	top    = 1<<32 - 1
	half   = 1 << 31
	top16  = 1<<16 - 1
	half16 = 1 << 15
)

// pairs are two numbers, and what the chapter says of them.
var pairs = []struct {
	name string
	a, b uint32
	dist uint32
	less bool
	most uint32
}{
	{"0 twice", 0, 0, 0, false, 0},
	{"an ordinary number twice", 1000, 1000, 0, false, 1000},
	{"the half twice", half, half, 0, false, half},
	{"the greatest twice", top, top, 0, false, top},
	{"a step up", 7, 8, 1, true, 8},
	{"a step down", 8, 7, top, false, 8},
	{"far up", 1000, 70000, 69000, true, 70000},
	{"far down", 70000, 1000, top - 69000 + 1, false, 70000},
	{"a step up, round at 0", top, 0, 1, true, 0},
	{"a step down, round at 0", 0, top, top, false, 0},
	{"up, round at 0", top - 9, 20, 30, true, 20},
	{"down, round at 0", 20, top - 9, top - 29, false, 20},
	{"one less than half", 0, half - 1, half - 1, true, half - 1},
	{"half", 0, half, half, false, 0},
	{"one more than half", 0, half + 1, half + 1, false, 0},
	{"one less than half, down", half - 1, 0, half + 1, false, half - 1},
	{"half, down", half, 0, half, false, half},
	{"one more than half, down", half + 1, 0, half - 1, true, 0},
	{"one less than half, round at 0", 3000000000, 3000000000 - half - 1, half - 1, true, 3000000000 - half - 1},
	{"half, round at 0", 3000000000, 3000000000 - half, half, false, 3000000000},
	{"one more than half, round at 0", 3000000000, 3000000000 - half + 1, half + 1, false, 3000000000},
	{"the lower 16 bits alone go down", 65535, 65536, 1, true, 65536},
	{"half of 16 bits", 0, half16, half16, true, half16},
	{"all of 16 bits", 5, 5 + 1<<16, 1 << 16, true, 5 + 1<<16},
	{"the chapter's example of the most", 5, 4294967290, 4294967285, false, 5},
}

// P2.1: how many steps lead from one to the other, going round at 2^32.
func TestDist(t *testing.T) {
	for _, p := range pairs {
		if got := serial.Dist(p.a, p.b); got != p.dist {
			t.Errorf("%s: Dist(%d, %d) is %d, want %d", p.name, p.a, p.b, got, p.dist)
		}
	}
}

// P2.1: Dist is what is counted, step by step.
func TestDistCounted(t *testing.T) {
	for _, a := range []uint32{0, 1, half - 100, half, top - 100, top} {
		b := a
		for n := range uint32(300) {
			if got := serial.Dist(a, b); got != n {
				t.Errorf("Dist(%d, %d) is %d, want %d", a, b, got, n)
			}
			b++
		}
	}
}

// P2.1: less is 1 to 2^31 - 1 steps away.
func TestLess(t *testing.T) {
	for _, p := range pairs {
		if got := serial.Less(p.a, p.b); got != p.less {
			t.Errorf("%s: Less(%d, %d) is %v", p.name, p.a, p.b, got)
		}
	}
}

// P2.1: likewise of 16 bits.
func TestLess16(t *testing.T) {
	for _, p := range []struct {
		name string
		a, b uint16
		less bool
	}{
		{"0 twice", 0, 0, false},
		{"an ordinary number twice", 1000, 1000, false},
		{"the half twice", half16, half16, false},
		{"the greatest twice", top16, top16, false},
		{"a step up", 7, 8, true},
		{"a step down", 8, 7, false},
		{"a step up, round at 0", top16, 0, true},
		{"a step down, round at 0", 0, top16, false},
		{"up, round at 0", top16 - 9, 20, true},
		{"down, round at 0", 20, top16 - 9, false},
		{"one less than half", 0, half16 - 1, true},
		{"half", 0, half16, false},
		{"one more than half", 0, half16 + 1, false},
		{"one less than half, down", half16 - 1, 0, false},
		{"half, down", half16, 0, false},
		{"one more than half, down", half16 + 1, 0, true},
		{"one less than half, round at 0", 50000, 50000 - half16 - 1, true},
		{"half, round at 0", 50000, 50000 - half16, false},
		{"one more than half, round at 0", 50000, 50000 - half16 + 1, false},
	} {
		if got := serial.Less16(p.a, p.b); got != p.less {
			t.Errorf("%s: Less16(%d, %d) is %v", p.name, p.a, p.b, got)
		}
	}
}

// P2.1: all steps that 16 bits have, counted from numbers at the edges.
func TestLess16AllTheWayRound(t *testing.T) {
	for _, a := range []uint16{0, 1, 258, half16 - 1, half16, half16 + 1, top16 - 1, top16} {
		b := a
		for n := range 1 << 16 {
			if got := serial.Less16(a, b); got != (1 <= n && n <= half16-1) {
				t.Errorf("%d steps: Less16(%d, %d) is %v", n, a, b, got)
			}
			b++
		}
		if b != a {
			t.Errorf("from %d the way round ends at %d", a, b)
		}
	}
}

// P2.2: the second one if the first one is less, else the first one.
func TestMax(t *testing.T) {
	for _, p := range pairs {
		if got := serial.Max(p.a, p.b); got != p.most {
			t.Errorf("%s: Max(%d, %d) is %d, want %d", p.name, p.a, p.b, got, p.most)
		}
	}
}

// P2.2: going up from a, x is met not behind b.
func TestBetween(t *testing.T) {
	for _, p := range []struct {
		name    string
		a, x, b uint32
		want    bool
	}{
		{"inside", 10, 15, 20, true},
		{"at the begin", 10, 10, 20, true},
		{"at the end", 10, 20, 20, true},
		{"one behind the end", 10, 21, 20, false},
		{"one ahead of the begin", 10, 9, 20, false},
		{"all the same", 10, 10, 10, true},
		{"nothing but the begin, one up", 10, 11, 10, false},
		{"nothing but the begin, one down", 10, 9, 10, false},
		{"round at 0, ahead of it", top - 5, top, 5, true},
		{"round at 0, at it", top - 5, 0, 5, true},
		{"round at 0, at the end", top - 5, 5, 5, true},
		{"round at 0, one behind the end", top - 5, 6, 5, false},
		{"round at 0, one ahead of the begin", top - 5, top - 6, 5, false},
		{"all but one, inside", 10, half + 10, 9, true},
		{"all but one, the end", 10, 9, 9, true},
		{"all but two, the one left out", 10, 9, 8, false},
		{"more than half, behind the half", 0, half + 1, half + 2, true},
		{"just half, at the end", 0, half, half, true},
		{"just half, one behind", 0, half + 1, half, false},
		{"half down to 0", half, 0, 0, true},
		{"half down to 0, one behind", half, 1, 0, false},
		{"the chapter's example", 4294967295, 1, 3, true},
	} {
		if got := serial.Between(p.a, p.x, p.b); got != p.want {
			t.Errorf("%s: Between(%d, %d, %d) is %v", p.name, p.a, p.x, p.b, got)
		}
	}
}

// The chapter's examples, as they stand there.
func TestExamples(t *testing.T) {
	if !serial.Less(4294967295, 0) || serial.Less(0, 4294967295) {
		t.Error("4294967295 and 0")
	}
	if serial.Less(0, 2147483648) || serial.Less(2147483648, 0) {
		t.Error("0 and 2147483648")
	}
	if got := serial.Max(5, 4294967290); got != 5 {
		t.Errorf("Max(5, 4294967290) is %d", got)
	}
	if !serial.Between(4294967295, 1, 3) {
		t.Error("1 between 4294967295 and 3")
	}
}
