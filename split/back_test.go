package split_test

import (
	"bytes"
	"math/rand"
	"reflect"
	"slices"
	"testing"

	"bollard/api"
	"bollard/split"
)

// checkThereAndBack asks that Whole of Split is the message, that each piece but the last one has most octets, and that each follows the one ahead.
func checkThereAndBack(t *testing.T, m api.Message, tsn uint32, ssn uint16, most int) {
	t.Helper()
	l, err := split.Split(m, tsn, ssn, most)
	if err != api.OK {
		t.Fatalf("Split of %d octets in pieces of %d is %v", len(m.Data), most, err)
	}
	if back, ok := split.Whole(l); !ok || !reflect.DeepEqual(back, m) {
		t.Errorf("Whole of Split of %v in pieces of %d is %v (%v)", m, most, back, ok)
	}
	for i, c := range l {
		if i < len(l)-1 && (len(c.Data) != most || !split.Follows(c, l[i+1])) {
			t.Errorf("the piece %d of %d octets in pieces of %d is %v, the next one is %v", i, len(m.Data), most, c, l[i+1])
		}
		if len(c.Data) == 0 || len(c.Data) > most {
			t.Errorf("the piece %d of %d octets in pieces of %d has %d", i, len(m.Data), most, len(c.Data))
		}
	}
}

// P13.4: sizes, pieces and numbers of all kinds.
func TestThereAndBack(t *testing.T) {
	for n := 1; n <= 40; n++ {
		for most := 1; most <= 42; most++ {
			checkThereAndBack(t, message(n, n%2 == 0), numbers[(n+most)%len(numbers)], uint16(n*most), most)
		}
	}
	for _, n := range []int{1, 2, 1171, 1172, 1173, 2343, 2344, 2345, 16383, 16384} {
		for _, most := range []int{1, 2, 3, 100, 1171, 1172} {
			for _, tsn := range numbers {
				checkThereAndBack(t, message(n, false), tsn, topShort, most)
				checkThereAndBack(t, message(n, true), tsn, topShort, most)
			}
		}
	}
}

// P13.4: rows drawn from a fixed seed.
func TestRowsThereAndBack(t *testing.T) {
	draw := rand.New(rand.NewSource(134))
	for range 2000 {
		m := drawnMessage(draw, []int{10, 1000, 16000}[draw.Intn(3)])
		m.Data = append(m.Data, 5)
		checkThereAndBack(t, m, drawnNumber(draw), uint16(draw.Intn(65536)), 1+draw.Intn(1172))
	}
}

// roomy are octets in a memory that has more behind them, and all of that memory.
func roomy(v []byte) (short, all []byte) {
	all = slices.Concat(v, []byte{201, 202, 203, 204, 205, 206, 207, 208})
	return all[:len(v)], all
}

// turn turns all octets, and those that stand behind them in the same memory.
func turn(v []byte) {
	v = v[:cap(v)]
	for i := range v {
		v[i] ^= 255
	}
}

// R3: what Split answers is new memory; no piece shares it with the message, or with another piece.
func TestSplitIsNewMemory(t *testing.T) {
	for _, n := range []int{1, 2, 5, 6, 7, 1172, 5000} {
		for _, most := range []int{1, 2, 3, 7, 1172} {
			m := message(n, true)
			short, all := roomy(m.Data)
			m.Data = short
			before := slices.Clone(all)
			l := checkSplit(t, "new memory", m, top, 7, most, api.OK)
			want := copied(l)
			turn(all)
			if !reflect.DeepEqual(l, want) {
				t.Fatalf("pieces of %d of %d octets have turned with the message", most, n)
			}
			turn(all)
			for i := range min(len(l), 50) {
				turn(l[i].Data)
				if !bytes.Equal(all, before) || !reflect.DeepEqual(l[:i], want[:i]) || !reflect.DeepEqual(l[i+1:], want[i+1:]) {
					t.Fatalf("of %d octets in pieces of %d, another one has turned with the piece %d", n, most, i)
				}
				turn(l[i].Data)
			}
		}
	}
}

// R3: what Whole answers is new memory; it shares none with a chunk, be it the only one that has Data.
func TestWholeIsNewMemory(t *testing.T) {
	for n := 1; n <= 5; n++ {
		for with := range 1 << n {
			l := piecesOf(n, top)
			var all [][]byte
			for i := range l {
				var v []byte
				if with>>i%2 == 1 {
					v = l[i].Data
				}
				short, whole := roomy(v)
				l[i].Data, all = short, append(all, whole)
			}
			checkMessageIsNew(t, l, all)
		}
	}
}

// checkMessageIsNew asks that the message of chunks shares no memory with theirs, which is all.
func checkMessageIsNew(t *testing.T, l []api.Chunk, all [][]byte) {
	t.Helper()
	before := slices.Concat(all...)
	m := checkWhole(t, "new memory", l, true)
	if !bytes.Equal(slices.Concat(all...), before) {
		t.Errorf("what stands behind the Data of %d chunks is changed", len(l))
	}
	want := slices.Clone(m.Data)
	for _, v := range all {
		turn(v)
	}
	clear(l)
	if !bytes.Equal(m.Data, want) {
		t.Errorf("the message has turned with its %d chunks", len(all))
	}
	for _, v := range all {
		turn(v)
	}
	turn(m.Data)
	if !bytes.Equal(slices.Concat(all...), before) {
		t.Errorf("%d chunks have turned with their message", len(all))
	}
}

// R3: chunks that share their memory with each other are a message all the same.
func TestWholeOfSharedMemory(t *testing.T) {
	v := value(6)
	l := piecesOf(4, 9)
	l[0].Data, l[1].Data, l[2].Data, l[3].Data = v[:4], v[2:], v, v[:0]
	if m := checkWhole(t, "shared memory", l, true); !bytes.Equal(m.Data, slices.Concat(v[:4], v[2:], v)) {
		t.Errorf("the Data is %v", m.Data)
	}
}

// Nothing is kept: what was asked before does not matter.
func TestNothingIsKept(t *testing.T) {
	m, other := message(7, false), message(3000, true)
	first := checkSplit(t, "first", m, top, 7, 2, api.OK)
	checkSplit(t, "another one", other, 5, 1, 1000, api.OK)
	checkSplit(t, "an error", other, 5, 1, 0, api.ErrArg)
	checkWhole(t, "no message", first[1:], false)
	if again := checkSplit(t, "again", m, top, 7, 2, api.OK); !reflect.DeepEqual(again, first) {
		t.Errorf("Split is %v, and then %v", first, again)
	}
	for range 3 {
		checkWhole(t, "again and again", first, true)
	}
}

// P1: very many chunks are one message, in a time that rises no faster than they do.
func TestVeryMany(t *testing.T) {
	n := 300000
	l := make([]api.Chunk, n)
	for i := range l {
		l[i] = api.Chunk{Flags: flagsOf(true, i == 0, i == n-1), A: top - 5 + uint32(i), Data: []byte{byte(i), byte(i >> 8)}}
	}
	if m, ok := split.Whole(l); !ok || len(m.Data) != 2*n || m.Data[n] != byte(n/2) {
		t.Errorf("Whole of very many is a message of %d octets (%v)", len(m.Data), ok)
	}
	l[n/2].A++
	if m, ok := split.Whole(l); ok || m.Data != nil {
		t.Errorf("Whole of very many with a fault is %v", ok)
	}
}
