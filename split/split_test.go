package split_test

import (
	"bytes"
	"math/rand"
	"testing"

	"bollard/api"
	"bollard/chunk"
	"bollard/packet"
	"bollard/split"
)

// The numbers of the flags, and the chapter's example.
func TestExample(t *testing.T) {
	if split.End != 1 || split.Begin != 2 || split.Free != 4 {
		t.Errorf("the flags are %d, %d, %d", split.End, split.Begin, split.Free)
	}
	l := checkSplit(t, "five octets", api.Message{Data: []byte{1, 2, 3, 4, 5}}, 9, 0, 2, api.OK)
	checkChunks(t, "five octets", l, []api.Chunk{
		{Flags: 2, A: 9, Data: []byte{1, 2}}, {Flags: 0, A: 10, Data: []byte{3, 4}}, {Flags: 1, A: 11, Data: []byte{5}},
	})
}

// checkChunks asks that chunks are those wanted.
func checkChunks(t *testing.T, what string, got, want []api.Chunk) {
	t.Helper()
	if len(got) != len(want) {
		t.Fatalf("%s: there are %d chunks, want %d", what, len(got), len(want))
	}
	for i := range want {
		if !chunk.Same(got[i], want[i]) {
			t.Errorf("%s: the chunk %d is %v, want %v", what, i, got[i], want[i])
		}
	}
}

// P13.1: chunks written out, with each field, in order and not.
func TestSplitWrittenOut(t *testing.T) {
	m := api.Message{Stream: 3, Ppid: 51, Data: []byte{10, 20, 30, 40, 50, 60, 70}}
	checkChunks(t, "in order", checkSplit(t, "in order", m, top-1, 65535, 3, api.OK), []api.Chunk{
		{Kind: api.Data, Flags: 2, A: top - 1, Out: 3, In: 65535, Ppid: 51, Data: []byte{10, 20, 30}},
		{Kind: api.Data, Flags: 0, A: top, Out: 3, In: 65535, Ppid: 51, Data: []byte{40, 50, 60}},
		{Kind: api.Data, Flags: 1, A: 0, Out: 3, In: 65535, Ppid: 51, Data: []byte{70}},
	})
	m.Unordered = true
	checkChunks(t, "without order", checkSplit(t, "without order", m, top, 65535, 3, api.OK), []api.Chunk{
		{Kind: api.Data, Flags: 6, A: top, Out: 3, In: 0, Ppid: 51, Data: []byte{10, 20, 30}},
		{Kind: api.Data, Flags: 4, A: 0, Out: 3, In: 0, Ppid: 51, Data: []byte{40, 50, 60}},
		{Kind: api.Data, Flags: 5, A: 1, Out: 3, In: 0, Ppid: 51, Data: []byte{70}},
	})
}

// P13.1: a message without Data has an error, whatever else it has.
func TestSplitNoData(t *testing.T) {
	for _, data := range [][]byte{nil, {}, value(5)[:0]} {
		for _, most := range []int{least, -1, 0, 1, 2, 1172, 1173, greatest} {
			for _, unordered := range []bool{false, true} {
				checkSplit(t, "no Data", api.Message{Stream: 3, Unordered: unordered, Ppid: 51, Data: data}, 9, 7, most, api.ErrArg)
			}
		}
	}
}

// P13.1: most is 1 to 1172; what may not be is told ahead of a message that is too large.
func TestSplitMost(t *testing.T) {
	for _, n := range []int{1, 2, 1171, 1172, 1173, 16384, 16385, 20000} {
		for _, most := range []int{least, least + 1, -1173, -1172, -2, -1, 0, 1173, 1174, 1200, 16384, 1 << 16, 1<<16 + 1, 1 << 32, 1<<32 + 1, greatest - 1, greatest} {
			checkSplit(t, "most may not be", message(n, false), 9, 7, most, api.ErrArg)
			checkSplit(t, "most may not be", message(n, true), 9, 7, most, api.ErrArg)
		}
	}
	for _, n := range []int{1, 2, 1171, 1172, 1173, 16384} {
		for _, most := range []int{1, 2, 1171, 1172} {
			checkSplit(t, "most may be", message(n, false), 9, 7, most, api.OK)
		}
	}
	for most := 1; most <= 1172; most++ {
		checkSplit(t, "each that may be", message(2*most+1, most%2 == 0), 9, 7, most, api.OK)
	}
}

// P13.1: a message has at most 16384 octets.
func TestSplitLarge(t *testing.T) {
	for _, most := range []int{1, 2, 3, 500, 1171, 1172} {
		for _, unordered := range []bool{false, true} {
			for _, n := range []int{1, 16383, 16384} {
				checkSplit(t, "not too large", message(n, unordered), top-3, 7, most, api.OK)
			}
			for _, n := range []int{16385, 16386, 1 << 16, 1<<16 + 1, 1 << 20} {
				checkSplit(t, "too large", message(n, unordered), top-3, 7, most, api.ErrLarge)
			}
		}
	}
}

// P13.1: as many octets as most, one less, one more, multiples and one to either side; how many each piece has.
func TestSplitSizes(t *testing.T) {
	for _, most := range []int{1, 2, 3, 4, 7, 255, 256, 1171, 1172} {
		for times := 1; times <= 5; times++ {
			for _, n := range []int{times*most - 1, times * most, times*most + 1} {
				if n > 0 {
					checkSizes(t, message(n, n%2 == 0), most)
				}
			}
		}
	}
}

// checkSizes asks that pieces have most octets but the last one, which has those left.
func checkSizes(t *testing.T, m api.Message, most int) {
	t.Helper()
	l := checkSplit(t, "sizes", m, 9, 7, most, api.OK)
	left := len(m.Data)
	for i, c := range l {
		want := most
		if i == len(l)-1 {
			want = left
		}
		if len(c.Data) != want || len(c.Data) == 0 || len(c.Data) > most {
			t.Errorf("the piece %d of %d has %d octets, want %d", i, len(l), len(c.Data), want)
		}
		left -= len(c.Data)
	}
	if left != 0 {
		t.Errorf("of %d octets in pieces of %d, %d are left", len(m.Data), most, left)
	}
}

// P13.1: A rises by one from piece to piece, and goes round.
func TestSplitNumbers(t *testing.T) {
	for _, tsn := range numbers {
		l := checkSplit(t, "numbers", message(6, false), tsn, 7, 1, api.OK)
		want := tsn
		for i, c := range l {
			if c.A != want {
				t.Errorf("from %d on, the number of the piece %d is %d, want %d", tsn, i, c.A, want)
			}
			want++
		}
	}
	if l := checkSplit(t, "round", message(3, false), top, 7, 1, api.OK); len(l) != 3 || l[0].A != 4294967295 || l[1].A != 0 || l[2].A != 1 {
		t.Errorf("from 2^32 - 1 on, the chunks are %v", l)
	}
}

// P13.1: In is ssn, and 0 without order; Out and Ppid are the message's.
func TestSplitFields(t *testing.T) {
	for _, ssn := range []uint16{0, 1, 7, 32767, 32768, 65534, 65535} {
		for _, stream := range []uint16{0, 1, 63, 64, 65535} {
			for _, ppid := range []uint32{0, 1, 50, 51, half, top} {
				for _, unordered := range []bool{false, true} {
					m := api.Message{Stream: stream, Unordered: unordered, Ppid: ppid, Data: value(5)}
					in := ssn
					if unordered {
						in = 0
					}
					for _, c := range checkSplit(t, "fields", m, 9, ssn, 2, api.OK) {
						if c.In != in || c.Out != stream || c.Ppid != ppid {
							t.Errorf("of %v and the number %d there is a chunk %v", m, ssn, c)
						}
					}
				}
			}
		}
	}
}

// P13.1: the flags of one piece alone, of the first one, one in the middle and the last one, each in order and not.
func TestSplitFlags(t *testing.T) {
	for _, x := range []struct {
		n         int
		unordered bool
		want      []byte
	}{
		{1, false, []byte{3}}, {2, false, []byte{3}}, {3, false, []byte{2, 1}}, {4, false, []byte{2, 1}}, {5, false, []byte{2, 0, 1}}, {8, false, []byte{2, 0, 0, 1}},
		{1, true, []byte{7}}, {2, true, []byte{7}}, {3, true, []byte{6, 5}}, {4, true, []byte{6, 5}}, {5, true, []byte{6, 4, 5}}, {8, true, []byte{6, 4, 4, 5}},
	} {
		var got []byte
		for _, c := range checkSplit(t, "flags", message(x.n, x.unordered), 9, 7, 2, api.OK) {
			got = append(got, c.Flags)
		}
		if !bytes.Equal(got, x.want) {
			t.Errorf("the flags of %d octets in pieces of two are %v, want %v", x.n, got, x.want)
		}
	}
}

// P13.1: every field that the chapter does not name is its zero value.
func TestSplitOtherFields(t *testing.T) {
	for _, unordered := range []bool{false, true} {
		for _, n := range []int{1, 3, 16384} {
			for _, c := range checkSplit(t, "other fields", message(n, unordered), top, topShort, 2, api.OK) {
				if c.Kind != api.Data || c.B != 0 || len(c.Blocks) != 0 || len(c.Dups) != 0 || len(c.Skips) != 0 || len(c.Params) != 0 || c.Flags > 7 {
					t.Fatalf("there is a chunk %v", c)
				}
			}
		}
	}
}

// P13.1: each chunk may be, and the longest piece just has room in a packet.
func TestSplitHasRoom(t *testing.T) {
	for _, c := range checkSplit(t, "the longest pieces", message(16384, true), top, 7, 1172, api.OK) {
		if !chunk.Shaped(c) || packet.Size(c) > 1188 {
			t.Errorf("a chunk of %d octets takes %d", len(c.Data), packet.Size(c))
		}
	}
}

// P13.1: rows drawn from a fixed seed are as the chapter's words have them.
func TestSplitRows(t *testing.T) {
	draw := rand.New(rand.NewSource(131))
	told := map[api.Errno]int{}
	for range 4000 {
		size := []int{3, 100, 2000, 20000}[draw.Intn(4)]
		m, most := drawnMessage(draw, size), draw.Intn(1174)
		if draw.Intn(3) == 0 {
			most = draw.Intn(12)
		}
		tsn, ssn := drawnNumber(draw), uint16(draw.Intn(65536))
		_, err := wordOfSplit(m, tsn, ssn, most)
		checkSplit(t, "a row", m, tsn, ssn, most, err)
		told[err]++
	}
	for _, err := range []api.Errno{api.OK, api.ErrArg, api.ErrLarge} {
		if told[err] < 100 {
			t.Errorf("the rows tell %v only %d times", err, told[err])
		}
	}
}
