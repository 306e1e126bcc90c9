package split_test

import (
	"bytes"
	"math"
	"math/rand"
	"reflect"
	"slices"
	"testing"

	"bollard/api"
	"bollard/chunk"
	"bollard/split"
)

const (
	top      = ^uint32(0)
	half     = uint32(1) << 31
	topShort = ^uint16(0)
	least    = math.MinInt
	greatest = math.MaxInt
)

// numbers are some from which A begins; from the later ones on it goes round.
var numbers = []uint32{0, 1, 9, half - 1, half, top - 2, top - 1, top}

// bits are the flags as they are told, Free first.
func bits(flags uint8) (free, begin, end bool) {
	return flags/4%2 == 1, flags/2%2 == 1, flags%2 == 1
}

// flagsOf are the flags of a piece.
func flagsOf(free, begin, end bool) uint8 {
	var n uint8
	for i, on := range []bool{end, begin, free} {
		if on {
			n += []uint8{1, 2, 4}[i]
		}
	}
	return n
}

// wordOfSplit says P13.1.
func wordOfSplit(m api.Message, tsn uint32, ssn uint16, most int) ([]api.Chunk, api.Errno) {
	size := len(m.Data)
	if size == 0 || most <= 0 || most >= 1173 {
		return nil, api.ErrArg
	}
	if size >= 16385 {
		return nil, api.ErrLarge
	}
	number := ssn
	if m.Unordered {
		number = 0
	}
	var l []api.Chunk
	for from := 0; from < size; from += most {
		to := from + most
		last := to >= size
		if last {
			to = size
		}
		l = append(l, api.Chunk{
			Kind: 0, Flags: flagsOf(m.Unordered, from == 0, last), A: uint32((uint64(tsn) + uint64(len(l))) % (1 << 32)),
			Out: m.Stream, In: number, Ppid: m.Ppid, Data: m.Data[from:to],
		})
	}
	return l, api.OK
}

// wordOfFollows says P13.2.
func wordOfFollows(a, b api.Chunk) bool {
	if a.Kind != 0 || b.Kind != 0 {
		return false
	}
	if (uint64(a.A)+1)%(1<<32) != uint64(b.A) {
		return false
	}
	if a.Out != b.Out || a.In != b.In || a.Ppid != b.Ppid {
		return false
	}
	freeA, _, endA := bits(a.Flags)
	freeB, beginB, _ := bits(b.Flags)
	return freeA == freeB && !endA && !beginB
}

// wordOfWhole says P13.3.
func wordOfWhole(l []api.Chunk) (api.Message, bool) {
	if len(l) == 0 {
		return api.Message{}, false
	}
	var m api.Message
	for i, c := range l {
		free, begin, end := bits(c.Flags)
		switch {
		case c.Kind != 0, i == 0 && !begin, i == len(l)-1 && !end, i > 0 && !wordOfFollows(l[i-1], c):
			return api.Message{}, false
		case i == 0:
			m = api.Message{Stream: c.Out, Ppid: c.Ppid, Unordered: free}
		}
		m.Data = append(m.Data, c.Data...)
	}
	return m, true
}

// sameMessage tells that two messages are the same.
func sameMessage(a, b api.Message) bool {
	return a.Stream == b.Stream && a.Unordered == b.Unordered && a.Ppid == b.Ppid && bytes.Equal(a.Data, b.Data)
}

// copied are chunks in memory of their own.
func copied(l []api.Chunk) []api.Chunk {
	out := slices.Clone(l)
	for i := range out {
		c := &out[i]
		c.Blocks, c.Dups, c.Skips = slices.Clone(c.Blocks), slices.Clone(c.Dups), slices.Clone(c.Skips)
		c.Params, c.Data = slices.Clone(c.Params), slices.Clone(c.Data)
		for k := range c.Params {
			c.Params[k].V = slices.Clone(c.Params[k].V)
		}
	}
	return out
}

// checkSplit asks that a message is in chunks as the chapter's words have it, and answers them; beside an error there are none, and what is handed in stays.
func checkSplit(t *testing.T, what string, m api.Message, tsn uint32, ssn uint16, most int, wantErr api.Errno) []api.Chunk {
	t.Helper()
	want, err := wordOfSplit(m, tsn, ssn, most)
	if err != wantErr {
		t.Errorf("%s: the words tell %v, want %v", what, err, wantErr)
	}
	before := m
	before.Data = slices.Clone(m.Data)
	got, err := split.Split(m, tsn, ssn, most)
	if err != wantErr || !slices.EqualFunc(got, want, chunk.Same) {
		t.Errorf("%s: Split of %d octets in pieces of %d is %v (%v), want %v (%v)", what, len(m.Data), most, got, err, want, wantErr)
	}
	if err != api.OK && len(got) != 0 {
		t.Errorf("%s: Split is %v beside an error", what, got)
	}
	if !reflect.DeepEqual(m, before) {
		t.Errorf("%s: what was handed in is changed", what)
	}
	return got
}

// checkFollows asks whether a chunk follows another one, as the chapter's words have it; what is handed in stays.
func checkFollows(t *testing.T, what string, a, b api.Chunk, want bool) {
	t.Helper()
	if word := wordOfFollows(a, b); word != want {
		t.Errorf("%s: the words tell %v, want %v", what, word, want)
	}
	before := copied([]api.Chunk{a, b})
	if got := split.Follows(a, b); got != want {
		t.Errorf("%s: Follows(%v, %v) is %v", what, a, b, got)
	}
	if !reflect.DeepEqual([]api.Chunk{a, b}, before) {
		t.Errorf("%s: what was handed in is changed", what)
	}
}

// checkWhole asks what message chunks are, as the chapter's words have it, and answers it; beside a false there is none, and what is handed in stays.
func checkWhole(t *testing.T, what string, l []api.Chunk, want bool) api.Message {
	t.Helper()
	word, ok := wordOfWhole(l)
	if ok != want {
		t.Errorf("%s: the words tell %v, want %v", what, ok, want)
	}
	before := copied(l)
	got, ok := split.Whole(l)
	if ok != want || !sameMessage(got, word) {
		t.Errorf("%s: Whole of %d chunks is %v (%v), want %v (%v)", what, len(l), got, ok, word, want)
	}
	if !ok && !reflect.DeepEqual(got, api.Message{}) {
		t.Errorf("%s: Whole is %v beside a false", what, got)
	}
	if !reflect.DeepEqual(l, before) {
		t.Errorf("%s: what was handed in is changed", what)
	}
	return got
}

// value are n octets; no two pieces of the same size are the same.
func value(n int) []byte {
	v := make([]byte, n)
	for i := range v {
		v[i] = byte(i*7 + i/256*13 + 1)
	}
	return v
}

// message is one of n octets whose every field is set.
func message(n int, unordered bool) api.Message {
	return api.Message{Stream: 515, Unordered: unordered, Ppid: 1<<24 + 51, Data: value(n)}
}

// piecesOf are the chunks of a message of n octets, one octet each.
func piecesOf(n int, tsn uint32) []api.Chunk {
	l, _ := wordOfSplit(message(n, false), tsn, 7, 1)
	return copied(l)
}

// drawnMessage is one of up to most octets.
func drawnMessage(draw *rand.Rand, most int) api.Message {
	m := api.Message{Stream: uint16(draw.Intn(70)), Unordered: draw.Intn(2) == 0, Ppid: draw.Uint32(), Data: make([]byte, draw.Intn(most+1))}
	draw.Read(m.Data)
	return m
}

// drawnNumber is any number, or one from which A soon goes round.
func drawnNumber(draw *rand.Rand) uint32 {
	if draw.Intn(2) == 0 {
		return top - uint32(draw.Intn(20))
	}
	return draw.Uint32()
}
