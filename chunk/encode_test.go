package chunk_test

import (
	"slices"
	"testing"

	"bollard/api"
)

// written is a chunk and its octets, written out.
type written struct {
	name string
	c    api.Chunk
	b    []byte
}

// writtenOut are chunks of each kind of the chapter, and of some that nobody knows.
func writtenOut() []written {
	two := []api.Param{{Kind: 258, V: []byte{9}}, {Kind: 65535}}
	twoOctets := []byte{1, 2, 0, 5, 9, 0, 0, 0, 255, 255, 0, 4}
	params := func(kind uint8) written {
		return written{"Params alone", api.Chunk{Kind: kind, Flags: 4, Params: two}, slices.Concat([]byte{kind, 4, 0, 16}, twoOctets)}
	}
	begin := func(kind uint8) written {
		b := []byte{kind, 1, 0, 32, 1, 2, 3, 4, 5, 6, 7, 8, 9, 10, 11, 12, 13, 14, 15, 16}
		return written{"a beginning", api.Chunk{Kind: kind, Flags: 1, A: 0x01020304, B: 0x05060708, Out: 0x090a, In: 0x0b0c, Ppid: 0x0d0e0f10, Params: two}, slices.Concat(b, twoOctets)}
	}
	return []written{
		{"the chapter's ShutdownAck", api.Chunk{Kind: api.ShutdownAck}, []byte{8, 0, 0, 4}},
		{"the chapter's Data", api.Chunk{Flags: 3, A: 5, Out: 1, In: 2, Ppid: 3, Data: []byte{9}}, []byte{0, 3, 0, 17, 0, 0, 0, 5, 0, 1, 0, 2, 0, 0, 0, 3, 9, 0, 0, 0}},
		{"Data", api.Chunk{Flags: 255, A: 0x01020304, Out: 0x0506, In: 0x0708, Ppid: 0x090a0b0c, Data: []byte{13, 14, 15, 16}}, []byte{0, 255, 0, 20, 1, 2, 3, 4, 5, 6, 7, 8, 9, 10, 11, 12, 13, 14, 15, 16}},
		begin(1), begin(2),
		{"a Sack of numbers alone", api.Chunk{Kind: api.Sack, A: 0x01020304, B: 0x05060708}, []byte{3, 0, 0, 16, 1, 2, 3, 4, 5, 6, 7, 8, 0, 0, 0, 0}},
		{"a Sack", api.Chunk{Kind: api.Sack, A: 1, B: 2, Blocks: []api.Block{{From: 0x0304, To: 0x0506}, {From: 7, To: 8}}, Dups: []uint32{0x090a0b0c}}, []byte{3, 0, 0, 28, 0, 0, 0, 1, 0, 0, 0, 2, 0, 2, 0, 1, 3, 4, 5, 6, 0, 7, 0, 8, 9, 10, 11, 12}},
		{"a Sack of Dups alone", api.Chunk{Kind: api.Sack, Dups: []uint32{1, 2}}, []byte{3, 0, 0, 24, 0, 0, 0, 0, 0, 0, 0, 0, 0, 0, 0, 2, 0, 0, 0, 1, 0, 0, 0, 2}},
		params(4), params(5), params(6), params(9), params(130),
		{"no Params", api.Chunk{Kind: api.Abort}, []byte{6, 0, 0, 4}},
		{"a Shutdown", api.Chunk{Kind: api.Shutdown, A: 0x01020304}, []byte{7, 0, 0, 8, 1, 2, 3, 4}},
		{"a CookieEcho", api.Chunk{Kind: api.CookieEcho, Data: []byte{1, 2, 3}}, []byte{10, 0, 0, 7, 1, 2, 3, 0}},
		{"an empty CookieEcho", api.Chunk{Kind: api.CookieEcho}, []byte{10, 0, 0, 4}},
		{"a CookieAck", api.Chunk{Kind: api.CookieAck, Flags: 1}, []byte{11, 1, 0, 4}},
		{"a ShutdownDone", api.Chunk{Kind: api.ShutdownDone, Flags: 1}, []byte{14, 1, 0, 4}},
		{"a Forward", api.Chunk{Kind: api.Forward, A: 0x01020304, Skips: []api.Skip{{Stream: 0x0506, Ssn: 0x0708}, {Stream: 9, Ssn: 10}}}, []byte{192, 0, 0, 16, 1, 2, 3, 4, 5, 6, 7, 8, 0, 9, 0, 10}},
		{"a Forward of no Skips", api.Chunk{Kind: api.Forward, A: 7}, []byte{192, 0, 0, 8, 0, 0, 0, 7}},
		{"a kind that nobody knows", api.Chunk{Kind: 12, Flags: 9, Data: []byte{1, 2, 3, 4, 5}}, []byte{12, 9, 0, 9, 1, 2, 3, 4, 5, 0, 0, 0}},
		{"the highest kind, empty", api.Chunk{Kind: 255, Flags: 255}, []byte{255, 255, 0, 4}},
	}
}

// P7.1: each kind written out, octet for octet.
func TestEncode(t *testing.T) {
	for _, x := range writtenOut() {
		checkEncode(t, x.name, x.c, x.b, api.OK)
	}
}

// P7.1: of every kind the least, an ordinary one and the greatest, octet for octet, at several flags.
func TestEncodeEachKind(t *testing.T) {
	for n := range 256 {
		for _, c := range []api.Chunk{least(uint8(n)), ordinary(uint8(n)), greatest(uint8(n))} {
			for _, flags := range []uint8{0, 1, 7, 128, 255} {
				c.Flags = flags
				checkWord(t, "a kind", c)
			}
		}
	}
}

// P7.1: Data of one to five octets is filled up with octets 0, which its length does not tell.
func TestEncodeFillsUp(t *testing.T) {
	for n, want := range [][]byte{
		{10, 0, 0, 4}, {10, 0, 0, 5, 1, 0, 0, 0}, {10, 0, 0, 6, 1, 2, 0, 0}, {10, 0, 0, 7, 1, 2, 3, 0}, {10, 0, 0, 8, 1, 2, 3, 4}, {10, 0, 0, 9, 1, 2, 3, 4, 5, 0, 0, 0},
	} {
		checkEncode(t, "a CookieEcho's", api.Chunk{Kind: api.CookieEcho, Data: value(n)}, want, api.OK)
		if n > 0 {
			head := []byte{0, 0, 0, byte(16 + n), 0, 0, 0, 1, 0, 2, 0, 3, 0, 0, 0, 4}
			checkEncode(t, "a Data's", api.Chunk{A: 1, Out: 2, In: 3, Ppid: 4, Data: value(n)}, append(head, want[4:]...), api.OK)
		}
	}
}

// P7.1: what fills up the last parameter is part of the length.
func TestEncodeFillsUpParams(t *testing.T) {
	for n, length := range []byte{8, 12, 12, 12, 12, 16} {
		c := api.Chunk{Kind: api.Error, Params: []api.Param{{Kind: 1, V: value(n)}}}
		b := append([]byte{9, 0, 0, length, 0, 1, 0, byte(4 + n)}, value(n)...)
		checkEncode(t, "an Error's", c, append(b, make([]byte, (4-n%4)%4)...), api.OK)
	}
}

// P7.1: the longest chunk that is shaped is far from too long.
func TestEncodeLongest(t *testing.T) {
	c := greatest(api.Init)
	want := rough(1, 255, 38548)
	for range 16 {
		want = append(want, 255)
	}
	for range 32 {
		want = append(want, 255, 255, 4, 180)
		for range 1200 {
			want = append(want, 255)
		}
	}
	checkEncode(t, "the longest", c, want, api.OK)
}
