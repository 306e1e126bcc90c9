package crc_test

import (
	"slices"
	"testing"

	"bollard/crc"
)

// added are two texts of one length, added bit by bit.
func added(a, b []byte) []byte {
	out := slices.Clone(a)
	for i, x := range b {
		out[i] ^= x
	}
	return out
}

// turned is a text with bits turned from a place on. Places go up by the octets, and within an octet from its lowest bit, as the polynomial does.
func turned(b []byte, place int, bits uint32) []byte {
	out := slices.Clone(b)
	for i := range 32 {
		if bits>>i&1 == 1 {
			out[(place+i)/8] ^= 1 << ((place + i) % 8)
		}
	}
	return out
}

// P3.3: octets in pieces have one Step as the whole, wherever they are cut.
func TestPieces(t *testing.T) {
	table := crc.Table()
	for _, b := range texts() {
		for _, sum := range sums {
			whole := crc.Step(table, sum, b)
			for cut := range len(b) + 1 {
				if got := crc.Step(table, crc.Step(table, sum, b[:cut]), b[cut:]); got != whole {
					t.Errorf("%v cut at %d: Step is %d, want %d", b, cut, got, whole)
				}
			}
		}
	}
}

// P3.3: likewise in pieces of one octet each, with empty ones between.
func TestManyPieces(t *testing.T) {
	table := crc.Table()
	for _, b := range texts() {
		sum := uint32(top)
		for i := range b {
			sum = crc.Step(table, sum, b[i:i+1])
			sum = crc.Step(table, sum, nil)
		}
		if got := crc.Sum(table, b); got != top-sum {
			t.Errorf("%v: Sum is %d, in pieces %d", b, got, top-sum)
		}
	}
}

// P3.3: texts of one length, added bit by bit, have steps from 0 that are added so.
func TestAddedTexts(t *testing.T) {
	table := crc.Table()
	for n := range 70 {
		for seed := range int64(20) {
			a, b := drawn(seed, n), drawn(seed+1000, n)
			want := crc.Step(table, 0, a) ^ crc.Step(table, 0, b)
			if got := crc.Step(table, 0, added(a, b)); got != want {
				t.Errorf("%v and %v: Step of both is %d, want %d", a, b, got, want)
			}
		}
	}
}

// differs asks that a text has not the same sum once bits are turned from a place on.
func differs(t *testing.T, table []uint32, b []byte, place int, bits uint32) {
	t.Helper()
	if other := turned(b, place, bits); crc.Sum(table, b) == crc.Sum(table, other) {
		t.Errorf("%v and %v have the same sum", b, other)
	}
}

// P3.3: texts that differ in 1 to 32 neighbouring bits alone have not the same sum.
func TestNeighbouringBits(t *testing.T) {
	table := crc.Table()
	for seed, n := range []int{1, 2, 4, 5, 9, 20} {
		b := drawn(int64(seed), n)
		for place := range 8 * n {
			for run := 1; run <= min(32, 8*n-place); run++ {
				all, ends := uint32(top)>>(32-run), uint32(1)|1<<(run-1)
				differs(t, table, b, place, all)
				differs(t, table, b, place, ends)
				for _, mask := range drawnTable(int64(place), 10) {
					differs(t, table, b, place, ends|all&mask)
				}
			}
		}
	}
}

// P3.3: all differences within 32 neighbouring bits; none is 0, as the bits' own steps can not be added up to 0.
func TestAllNeighbouringBits(t *testing.T) {
	table := crc.Table()
	for place := range 70 {
		var leading [32]uint32
		for i := range 32 {
			rest := crc.Step(table, 0, turned(make([]byte, 13), place, 1<<i))
			for bit := 31; bit >= 0; bit-- {
				if rest>>bit&1 == 1 && leading[bit] != 0 {
					rest ^= leading[bit]
				}
				if rest>>bit&1 == 1 {
					leading[bit] = rest
					break
				}
			}
			if rest == 0 {
				t.Errorf("from bit %d on: bits up to the %d-th add up to 0", place, i)
			}
		}
	}
}

// P1 and R3: no call panics or changes what is handed in, and asked again each answers the same.
func TestEveryArgument(t *testing.T) {
	all := wrongTables()
	for name, table := range tables() {
		all["256: "+name] = table
	}
	for name, table := range all {
		was := slices.Clone(table)
		for _, b := range texts() {
			octets := slices.Clone(b)
			for _, sum := range sums {
				if crc.Step(table, sum, b) != crc.Step(table, sum, b) || crc.Sum(table, b) != crc.Sum(table, b) {
					t.Errorf("%s: answered otherwise when asked again", name)
				}
			}
			if !slices.Equal(b, octets) {
				t.Errorf("%s: the octets changed", name)
			}
		}
		if !slices.Equal(table, was) {
			t.Errorf("%s: the table changed", name)
		}
	}
}

// R3: a table that is handed in is not kept: what is written to it later counts.
func TestTableIsNotKept(t *testing.T) {
	table := crc.Table()
	before := crc.Sum(table, []byte("a"))
	for i := range table {
		table[i] = 0
	}
	if got := crc.Sum(table, []byte("a")); got != top-(top>>8) {
		t.Errorf("Sum by a table of zeros is %d, before it was %d", got, before)
	}
}
