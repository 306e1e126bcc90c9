package chunk_test

import (
	"bytes"
	"math/rand"
	"slices"
	"testing"

	"bollard/api"
	"bollard/chunk"
)

// P7.1: of each kind, known or not, the least, an ordinary one and the greatest are shaped, at all flags.
func TestShaped(t *testing.T) {
	for n := range 256 {
		for _, c := range []api.Chunk{least(uint8(n)), ordinary(uint8(n)), greatest(uint8(n))} {
			if !chunk.Shaped(c) {
				t.Errorf("kind %d: %v is not shaped", n, c)
			}
			for flags := range 256 {
				c.Flags = uint8(flags)
				if !chunk.Shaped(c) {
					t.Errorf("kind %d with the flags %d is not shaped", n, flags)
				}
			}
		}
	}
}

// P7.1: a field that the kind has not, set alone or beside its own, is ErrArg; one that it has is not.
func TestFieldsThatAKindHasNot(t *testing.T) {
	for n := range 256 {
		for _, s := range singles() {
			for _, c := range []api.Chunk{least(uint8(n)), ordinary(uint8(n)), greatest(uint8(n))} {
				s.set(&c)
				checkWord(t, s.name, c)
			}
		}
	}
}

// P7.1: the fields that each kind of the chapter has not, written out one by one.
func TestFieldsWrittenOut(t *testing.T) {
	a := api.Chunk{A: 1}
	b := api.Chunk{B: 1}
	out := api.Chunk{Out: 1}
	in := api.Chunk{In: 1}
	ppid := api.Chunk{Ppid: 1}
	run := api.Chunk{Blocks: []api.Block{{}}}
	dup := api.Chunk{Dups: []uint32{0}}
	skip := api.Chunk{Skips: []api.Skip{{}}}
	param := api.Chunk{Params: []api.Param{{}}}
	data := api.Chunk{Data: []byte{0}}
	none := []api.Chunk{a, b, out, in, ppid, run, dup, skip, param, data}
	onlyParams := []api.Chunk{a, b, out, in, ppid, run, dup, skip, data}
	onlyData := []api.Chunk{a, b, out, in, ppid, run, dup, skip, param}
	begin := []api.Chunk{run, dup, skip, data}
	for _, x := range []struct {
		kind uint8
		not  []api.Chunk
	}{
		{api.Data, []api.Chunk{b, run, dup, skip, param}}, {api.Init, begin}, {api.InitAck, begin}, {api.Sack, []api.Chunk{out, in, ppid, skip, param, data}},
		{api.Heartbeat, onlyParams}, {api.HeartbeatAck, onlyParams}, {api.Abort, onlyParams}, {api.Error, onlyParams}, {api.Reset, onlyParams},
		{api.Shutdown, []api.Chunk{b, out, in, ppid, run, dup, skip, param, data}}, {api.ShutdownAck, none}, {api.CookieAck, none}, {api.ShutdownDone, none},
		{api.CookieEcho, onlyData}, {api.Forward, []api.Chunk{b, out, in, ppid, run, dup, param, data}}, {12, onlyData}, {13, onlyData}, {15, onlyData}, {99, onlyData}, {255, onlyData},
	} {
		for _, c := range x.not {
			c.Kind = x.kind
			if x.kind == api.Data {
				c.Data = []byte{5}
			}
			checkNone(t, "a field that the kind has not", c)
		}
	}
}

// P7.1: lists without elements are not set, be they nil or not.
func TestListsWithoutElements(t *testing.T) {
	for n := range 256 {
		c := least(uint8(n))
		want, _ := wordOfEncode(c)
		c.Blocks, c.Dups, c.Skips, c.Params = []api.Block{}, []uint32{}, []api.Skip{}, []api.Param{}
		if n != api.Data {
			c.Data = []byte{}
		}
		checkEncode(t, "empty lists", c, want, api.OK)
	}
}

// P7.1: Data of 1200 octets may be, of 1201 not; a Data's may not be empty, nil or not, another kind's may.
func TestHowMuchData(t *testing.T) {
	checkNone(t, "a Data's of no octet", api.Chunk{Kind: api.Data})
	checkNone(t, "a Data's of no octet", api.Chunk{Kind: api.Data, A: 1, Out: 2, In: 3, Ppid: 4, Data: []byte{}})
	for _, kind := range append([]uint8{api.Data, api.CookieEcho}, strange...) {
		for _, n := range []int{0, 1, 2, 3, 4, 5, 255, 256, 1198, 1199, 1200} {
			if n > 0 || kind != api.Data {
				checkWord(t, "Data", api.Chunk{Kind: kind, Data: value(n)})
				checkWord(t, "Data of octets 0", api.Chunk{Kind: kind, Data: make([]byte, n)})
			}
		}
		for _, n := range []int{1201, 1202, 1204, 16384, 65531, 65532, 65536, 65537, 100000} {
			checkNone(t, "too much Data", api.Chunk{Kind: kind, Data: value(n)})
		}
	}
	for _, kind := range known {
		c := ordinary(kind)
		c.Data = value(1201)
		checkNone(t, "too much Data", c)
	}
}

// P7.1: none, one, 64 and 65 Blocks, Dups and Skips.
func TestHowManyInLists(t *testing.T) {
	counts := []int{0, 1, 2, 63, 64, 65, 66, 128, 65535, 65536, 65537}
	for _, n := range counts {
		for _, m := range counts {
			c := api.Chunk{Kind: api.Sack, Blocks: blocks(n), Dups: dups(m)}
			if n <= 64 && m <= 64 {
				checkWord(t, "Blocks and Dups", c)
			} else {
				checkNone(t, "too many Blocks or Dups", c)
			}
		}
		if c := (api.Chunk{Kind: api.Forward, A: 5, Skips: skips(n)}); n <= 64 {
			checkWord(t, "Skips", c)
		} else {
			checkNone(t, "too many Skips", c)
		}
	}
}

// P7.1: a list that is too long is so in each kind, whether it has it or not.
func TestTooLongInEachKind(t *testing.T) {
	for _, kind := range kinds() {
		for _, set := range []func(*api.Chunk){
			func(c *api.Chunk) { c.Blocks = blocks(65) },
			func(c *api.Chunk) { c.Dups = dups(65) },
			func(c *api.Chunk) { c.Skips = skips(65) },
			func(c *api.Chunk) { c.Params = params(33) },
			func(c *api.Chunk) { c.Params = []api.Param{{V: value(1201)}} },
			func(c *api.Chunk) { c.Data = value(1201) },
		} {
			c := ordinary(kind)
			set(&c)
			checkNone(t, "too long", c)
		}
	}
}

// P7.1: Params are those that tlv.Encode takes: 32 of them, values of 1200 octets.
func TestWhichParams(t *testing.T) {
	for _, kind := range []uint8{api.Init, api.InitAck, api.Heartbeat, api.HeartbeatAck, api.Abort, api.Error, api.Reset} {
		for _, n := range []int{0, 1, 2, 31, 32} {
			checkWord(t, "Params", api.Chunk{Kind: kind, Params: params(n)})
			checkWord(t, "Params of 0", api.Chunk{Kind: kind, Params: make([]api.Param, n)})
		}
		for _, n := range []int{33, 34, 64, 1000} {
			checkNone(t, "too many Params", api.Chunk{Kind: kind, Params: params(n)})
			checkNone(t, "too many Params of 0", api.Chunk{Kind: kind, Params: make([]api.Param, n)})
		}
		for _, n := range []int{1199, 1200} {
			checkWord(t, "a long value", api.Chunk{Kind: kind, Params: []api.Param{{Kind: 5, V: value(n)}, {Kind: 6}}})
		}
		for _, n := range []int{1201, 65531, 65532, 65536, 65540} {
			checkNone(t, "a value too long", api.Chunk{Kind: kind, Params: []api.Param{{Kind: 5, V: value(n)}}})
			checkNone(t, "a value too long, the last one", api.Chunk{Kind: kind, Params: append(params(31), api.Param{V: value(n)})})
		}
	}
}

// P7.1: chunks drawn from a fixed seed are shaped and written as the chapter's words have them.
func TestEncodeRows(t *testing.T) {
	draw := rand.New(rand.NewSource(71))
	shaped := 0
	for range 10000 {
		c := drawnChunk(draw)
		checkWord(t, "a row", c)
		if wordOfShaped(c) {
			shaped++
		}
	}
	if shaped < 3000 || shaped > 9500 {
		t.Errorf("%d of the rows are shaped", shaped)
	}
}

// R3: what is written shares nothing with what was handed in, nor with another answer, nor is the memory behind a list touched.
func TestEncodeIsNewMemory(t *testing.T) {
	for _, kind := range kinds() {
		c := roomy(greatest(kind))
		want, _ := wordOfEncode(c)
		got, _ := chunk.Encode(c)
		again, _ := chunk.Encode(c)
		stay := copied(c)
		for i := range got {
			got[i] = 43
		}
		_ = append(got, 43, 43, 43, 43)
		if !alike(c, stay) || !behindIsFree(c) {
			t.Errorf("kind %d: what was handed in changes with the answer", kind)
		}
		overwrite(c)
		if !bytes.Equal(again, want) {
			t.Errorf("kind %d: the answer changes with what was handed in, or with another answer", kind)
		}
	}
}

// roomy is a chunk whose lists have room behind their elements.
func roomy(c api.Chunk) api.Chunk {
	c.Blocks, c.Dups, c.Skips = slices.Grow(slices.Clone(c.Blocks), 8), slices.Grow(slices.Clone(c.Dups), 8), slices.Grow(slices.Clone(c.Skips), 8)
	c.Params, c.Data = slices.Grow(slices.Clone(c.Params), 8), slices.Grow(bytes.Clone(c.Data), 8)
	for i := range c.Params {
		c.Params[i].V = slices.Grow(bytes.Clone(c.Params[i].V), 8)
	}
	return c
}

// behindIsFree tells that nothing was written behind a roomy chunk's octets.
func behindIsFree(c api.Chunk) bool {
	free := func(b []byte) bool {
		return !bytes.ContainsFunc(b[len(b):len(b)+8], func(r rune) bool { return r != 0 })
	}
	for _, p := range c.Params {
		if !free(p.V) {
			return false
		}
	}
	return free(c.Data)
}

// overwrite writes to all that a chunk's lists hold.
func overwrite(c api.Chunk) {
	for i := range c.Blocks {
		c.Blocks[i] = api.Block{From: 42, To: 42}
	}
	for i := range c.Dups {
		c.Dups[i] = 42
	}
	for i := range c.Skips {
		c.Skips[i] = api.Skip{Stream: 42, Ssn: 42}
	}
	for i := range c.Params {
		for j := range c.Params[i].V {
			c.Params[i].V[j] = 42
		}
		c.Params[i] = api.Param{Kind: 42}
	}
	for i := range c.Data {
		c.Data[i] = 42
	}
}
