package crc_test

import (
	"hash/crc32"
	"math/rand"
	"slices"
	"testing"

	"bollard/crc"
)

const (
	top  = 1<<32 - 1
	half = 1 << 31
)

// sums are checksums to begin with: edges, and ordinary ones.
var sums = []uint32{0, 1, 127, 128, 255, 256, 257, 511, 65535, 65536, 3000000000, half - 1, half, half + 1, top - 255, top - 1, top}

// drawn are n octets from a fixed seed.
func drawn(seed int64, n int) []byte {
	b := make([]byte, n)
	rand.New(rand.NewSource(seed)).Read(b)
	return b
}

// drawnTable is a table of n numbers from a fixed seed.
func drawnTable(seed int64, n int) []uint32 {
	draw := rand.New(rand.NewSource(seed))
	table := make([]uint32, n)
	for i := range table {
		table[i] = draw.Uint32()
	}
	return table
}

// texts are octets of many lengths.
func texts() [][]byte {
	out := [][]byte{nil, {}, {0}, {1}, {128}, {255}, []byte("a"), []byte("123456789"), make([]byte, 32)}
	for n := range 40 {
		out = append(out, drawn(int64(n), n))
	}
	return append(out, drawn(3, 255), drawn(3, 256), drawn(3, 257), drawn(3, 1200))
}

// tables are tables of 256 numbers of any kind.
func tables() map[string][]uint32 {
	same := make([]uint32, 256)
	rising := make([]uint32, 256)
	for i := range same {
		same[i] = top
		rising[i] = uint32(i)
	}
	return map[string][]uint32{
		"the table":      crc.Table(),
		"zeros":          make([]uint32, 256),
		"all bits":       same,
		"its own places": rising,
		"drawn":          drawnTable(1, 256),
		"drawn, cut":     drawnTable(2, 300)[20:276],
	}
}

// wrongTables are tables of another length than 256.
func wrongTables() map[string][]uint32 {
	return map[string][]uint32{
		"nil":                    nil,
		"none":                   {},
		"one":                    {7},
		"255":                    crc.Table()[:255],
		"the last 255":           crc.Table()[1:],
		"257":                    append(crc.Table(), 5),
		"512":                    append(crc.Table(), crc.Table()...),
		"none, with room behind": crc.Table()[:0],
	}
}

// wordOfSteps says Step as the chapter does, by numbers that can not go round.
func wordOfSteps(table []uint32, sum uint32, b []byte) uint32 {
	s := uint64(sum)
	for _, x := range b {
		place := (s ^ uint64(x)) % 256
		s = (s - s%256) / 256
		s ^= uint64(table[place])
	}
	return uint32(s)
}

// P3.1: the i-th is i, taken through the bits' step eight times.
func TestTable(t *testing.T) {
	table := crc.Table()
	if len(table) != 256 {
		t.Fatalf("%d numbers", len(table))
	}
	for i, got := range table {
		want := uint64(i)
		for range 8 {
			odd := want%2 == 1
			want = want / 2
			if odd {
				want ^= 2197175160
			}
		}
		if uint64(got) != want {
			t.Errorf("number %d is %d, want %d", i, got, want)
		}
	}
}

// P3.1: the numbers are those that Go's own library has of this polynomial.
func TestTableOfLibrary(t *testing.T) {
	if want := crc32.MakeTable(crc32.Castagnoli); !slices.Equal(crc.Table(), want[:]) {
		t.Errorf("the table is %v", crc.Table())
	}
}

// P3.1 and R3: a caller who writes to a table changes no other one, neither an earlier nor a later one.
func TestTableIsNew(t *testing.T) {
	want := crc32.MakeTable(crc32.Castagnoli)
	earlier, spoilt := crc.Table(), crc.Table()
	for i := range spoilt {
		spoilt[i] = 12345
	}
	_ = append(spoilt[:0], 6, 7, 8)
	if !slices.Equal(earlier, want[:]) {
		t.Error("an earlier table changed")
	}
	if !slices.Equal(crc.Table(), want[:]) {
		t.Error("the next table is not as it should be")
	}
	if got := crc.Sum(crc.Table(), []byte("123456789")); got != 3808858755 {
		t.Errorf("the sum is %d", got)
	}
}

// P3.2: Step of any table of 256 numbers, from any checksum.
func TestStep(t *testing.T) {
	for name, table := range tables() {
		for _, b := range texts() {
			for _, sum := range sums {
				if got, want := crc.Step(table, sum, b), wordOfSteps(table, sum, b); got != want {
					t.Errorf("%s: Step(%d, %v) is %d, want %d", name, sum, b, got, want)
				}
			}
		}
	}
}

// P3.2: a step of one octet, for all octets.
func TestStepOfOneOctet(t *testing.T) {
	table := drawnTable(3, 256)
	for x := range 256 {
		for _, sum := range sums {
			want := sum>>8 ^ table[byte(sum)^byte(x)]
			if got := crc.Step(table, sum, []byte{byte(x)}); got != want {
				t.Errorf("Step(%d, %d) is %d, want %d", sum, x, got, want)
			}
		}
	}
}

// P3.2: Sum begins with all bits, and turns them at the end, with any table of 256 numbers.
func TestSum(t *testing.T) {
	for name, table := range tables() {
		for _, b := range texts() {
			if got, want := crc.Sum(table, b), top-wordOfSteps(table, top, b); got != want {
				t.Errorf("%s: Sum(%v) is %d, want %d", name, b, got, want)
			}
		}
	}
}

// P3.2: with Table, Sum is CRC32c.
func TestSumOfLibrary(t *testing.T) {
	castagnoli := crc32.MakeTable(crc32.Castagnoli)
	for _, b := range texts() {
		if got, want := crc.Sum(crc.Table(), b), crc32.Checksum(b, castagnoli); got != want {
			t.Errorf("Sum(%v) is %d, want %d", b, got, want)
		}
	}
}

// P3.2: no octets at all leave a checksum as it is.
func TestNoOctets(t *testing.T) {
	for name, table := range tables() {
		for _, b := range [][]byte{nil, {}, make([]byte, 5)[5:]} {
			for _, sum := range sums {
				if got := crc.Step(table, sum, b); got != sum {
					t.Errorf("%s: Step(%d) of nothing is %d", name, sum, got)
				}
			}
			if got := crc.Sum(table, b); got != 0 {
				t.Errorf("%s: Sum of nothing is %d", name, got)
			}
		}
	}
}

// P3.2: a table of another length answers 0, whatever else is handed in.
func TestWrongTables(t *testing.T) {
	for name, table := range wrongTables() {
		for _, b := range texts() {
			if got := crc.Sum(table, b); got != 0 {
				t.Errorf("a table of length %s: Sum(%v) is %d", name, b, got)
			}
			for _, sum := range sums {
				if got := crc.Step(table, sum, b); got != 0 {
					t.Errorf("a table of length %s: Step(%d, %v) is %d", name, sum, b, got)
				}
			}
		}
	}
}

// The chapter's examples, as they stand there.
func TestExamples(t *testing.T) {
	table := crc.Table()
	if got := crc.Sum(table, []byte("123456789")); got != 3808858755 {
		t.Errorf(`Sum of "123456789" is %d`, got)
	}
	if got := crc.Sum(table, nil); got != 0 {
		t.Errorf("Sum of nothing is %d", got)
	}
	if table[1] != 4067132163 {
		t.Errorf("the second number is %d", table[1])
	}
}
