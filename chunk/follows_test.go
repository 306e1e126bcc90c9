package chunk_test

import (
	"bytes"
	"math/rand"
	"slices"
	"testing"

	"bollard/api"
	"bollard/chunk"
)

// checkThereAndBack asks that a chunk, written and read, is the same, whatever stands behind it.
func checkThereAndBack(t *testing.T, what string, c api.Chunk, behinds ...[]byte) {
	t.Helper()
	b, err := chunk.Encode(c)
	if err != api.OK || len(b)%4 != 0 {
		t.Errorf("%s: Encode of kind %d is %d octets (%v)", what, c.Kind, len(b), err)
		return
	}
	for _, behind := range behinds {
		got, n, err := chunk.Decode(slices.Concat(b, behind))
		if err != api.OK || n != len(b) || !chunk.Same(got, c) || !alike(got, c) {
			t.Errorf("%s: kind %d is read as %v, %d (%v)", what, c.Kind, got, n, err)
		}
		if !chunk.Shaped(got) {
			t.Errorf("%s: kind %d is read as what is not shaped", what, c.Kind)
		}
	}
}

// checkBackAndThere asks that octets, if they are read, are written so, and tells whether they are.
func checkBackAndThere(t *testing.T, what string, b []byte) bool {
	t.Helper()
	c, n, err := chunk.Decode(b)
	if err != api.OK {
		return false
	}
	got, err := chunk.Encode(c)
	if err != api.OK || !bytes.Equal(got, b[:n]) {
		t.Errorf("%s: %v is written as %v (%v)", what, b[:n], got, err)
	}
	return true
}

// P7.4: chunks of each kind are the same there and back.
func TestThereAndBack(t *testing.T) {
	for n := range 256 {
		for _, c := range []api.Chunk{least(uint8(n)), ordinary(uint8(n)), greatest(uint8(n))} {
			checkThereAndBack(t, "a kind", c, behinds()...)
		}
	}
	for n := range 65 {
		checkThereAndBack(t, "a Sack", api.Chunk{Kind: api.Sack, Blocks: blocks(n), Dups: dups(64 - n)}, nil, []byte{9})
		checkThereAndBack(t, "a Forward", api.Chunk{Kind: api.Forward, Skips: skips(n)}, nil, []byte{9})
	}
	for n := range 33 {
		checkThereAndBack(t, "an Abort", api.Chunk{Kind: api.Abort, Params: params(n)}, nil, []byte{9})
		checkThereAndBack(t, "an InitAck", api.Chunk{Kind: api.InitAck, Params: params(n)}, nil, []byte{9})
	}
	for n := range 1201 {
		checkThereAndBack(t, "a CookieEcho", api.Chunk{Kind: api.CookieEcho, Data: value(n)}, nil, []byte{9})
		checkThereAndBack(t, "a kind that nobody knows", api.Chunk{Kind: 99, Data: make([]byte, n)}, nil, []byte{9})
		if n > 0 {
			checkThereAndBack(t, "a Data", api.Chunk{Data: make([]byte, n)}, nil, []byte{9})
		}
	}
}

// P7.4: one field alone at each of its bits, with all others 0.
func TestBitsThereAndBack(t *testing.T) {
	for _, kind := range kinds() {
		for bit := range 32 {
			for _, f := range layout(kind) {
				c := least(kind)
				setNumber(&c, f, 1<<bit)
				checkThereAndBack(t, "a bit", c, nil)
			}
			c := least(kind)
			c.Flags = uint8(1 << (bit % 8))
			checkThereAndBack(t, "a flag", c, nil)
		}
	}
}

// P7.4: chunks drawn from a fixed seed are the same there and back, several behind each other too.
func TestRowsThereAndBack(t *testing.T) {
	draw := rand.New(rand.NewSource(74))
	for range 1000 {
		var row []api.Chunk
		var b []byte
		for range draw.Intn(8) {
			c := drawnChunk(draw)
			if !chunk.Shaped(c) {
				continue
			}
			checkThereAndBack(t, "a row", c, nil, value(draw.Intn(5)))
			one, _ := chunk.Encode(c)
			row, b = append(row, c), append(b, one...)
		}
		for _, want := range row {
			got, n, err := chunk.Decode(b)
			if err != api.OK || !chunk.Same(got, want) {
				t.Fatalf("one behind another: %v (%v), want %v", got, err, want)
			}
			b = b[n:]
		}
		if len(b) != 0 {
			t.Errorf("%d octets are left", len(b))
		}
	}
}

// P7.4: octets that are read are written so; all short ones of a few numbers are gone through.
func TestOctetsThereAndBack(t *testing.T) {
	numbers := []byte{0, 4, 5, 9}
	for _, kind := range kinds() {
		read := 0
		for length := 4; length < 12; length++ {
			for count := range 1 << 16 {
				if count>>8 != 0 && length < 8 {
					break
				}
				b := rough(kind, byte(count), length, make([]byte, 8)...)
				for i := range 8 {
					b[4+i] = numbers[count>>(2*i)&3]
				}
				if checkBackAndThere(t, "octets", b) {
					read++
				}
			}
		}
		if read == 0 && kind != api.Data && kind != api.Init && kind != api.InitAck && kind != api.Sack {
			t.Errorf("of kind %d none are read", kind)
		}
	}
}

// P7.4: octets drawn from a fixed seed are written as they were read.
func TestDrawnOctetsThereAndBack(t *testing.T) {
	draw := rand.New(rand.NewSource(75))
	read := 0
	for range 20000 {
		b, _ := wordOfEncode(drawnChunk(draw))
		if len(b) > 0 {
			b[draw.Intn(len(b))] ^= 1 << draw.Intn(8)
		}
		if checkBackAndThere(t, "drawn octets", b) {
			read++
		}
	}
	if read < 3000 {
		t.Errorf("only %d are read", read)
	}
}

// P1: no call panics, whatever the octets are, and each ends.
func TestAnyOctets(t *testing.T) {
	draw := rand.New(rand.NewSource(76))
	for n := range 6000 {
		b := make([]byte, draw.Intn(n+1))
		draw.Read(b)
		checkRead(t, "any octets", b)
		if len(b) > 4 {
			b[0], b[2], b[3] = drawnKind(draw), 0, byte(draw.Intn(32))
			checkRead(t, "any octets of a kind", b)
			b[2], b[3] = byte(len(b)>>8), byte(len(b))
			checkRead(t, "any octets, all of them", b)
		}
	}
	for n := range 1300 {
		for _, x := range []byte{0, 1, 4, 192, 255} {
			checkRead(t, "the same octets", bytes.Repeat([]byte{x}, n))
		}
	}
}

// P1: very long lists and octets are told to be so, soon.
func TestVeryMany(t *testing.T) {
	for _, kind := range kinds() {
		for _, c := range []api.Chunk{
			{Blocks: make([]api.Block, 1000000)}, {Dups: make([]uint32, 1000000)}, {Skips: make([]api.Skip, 1000000)},
			{Params: make([]api.Param, 1000000)}, {Params: []api.Param{{V: make([]byte, 5000000)}}}, {Data: make([]byte, 5000000)},
		} {
			c.Kind = kind
			if chunk.Shaped(c) || !chunk.Same(c, c) {
				t.Errorf("kind %d: very many are shaped, or not the same", kind)
			}
			if b, err := chunk.Encode(c); err != api.ErrArg || b != nil {
				t.Errorf("kind %d: very many are %d octets (%v)", kind, len(b), err)
			}
		}
		b, _ := wordOfEncode(ordinary(kind))
		checkDecode(t, "very many octets behind", append(bytes.Clone(b), make([]byte, 5000000)...), ordinary(kind), len(b), api.OK)
	}
}

// R3, R1: one answer does not hang on what was asked ahead of it.
func TestNothingIsKept(t *testing.T) {
	c := ordinary(api.Sack)
	good, _ := wordOfEncode(c)
	for _, bad := range [][]byte{nil, {3}, {3, 0, 0, 3}, good[:len(good)-1], sack(65, 0, 0), forward(64, 1), rough(6, 0, 7, 0, 1, 0, 0), rough(8, 0, 5, 1)} {
		chunk.Decode(bad)
		checkDecode(t, "behind an error", good, c, len(good), api.OK)
		chunk.Encode(api.Chunk{Kind: 3, Out: 1})
		checkEncode(t, "behind an error", c, good, api.OK)
	}
}
