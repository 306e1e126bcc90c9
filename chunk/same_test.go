package chunk_test

import (
	"math/rand"
	"testing"

	"bollard/api"
	"bollard/chunk"
)

// checkSame asks it both ways.
func checkSame(t *testing.T, what string, a, b api.Chunk, want bool) {
	t.Helper()
	before, behind := copied(a), copied(b)
	if chunk.Same(a, b) != want || chunk.Same(b, a) != want {
		t.Errorf("%s: Same of kinds %d and %d is %v and %v, want %v", what, a.Kind, b.Kind, chunk.Same(a, b), chunk.Same(b, a), want)
	}
	if !alike(a, before) || !alike(b, behind) {
		t.Errorf("%s: Same changed what was handed in", what)
	}
}

// everything is a chunk all of whose fields are set, be it shaped or not.
func everything() api.Chunk {
	return api.Chunk{
		Kind: 1, Flags: 2, A: 3, B: 4, Out: 5, In: 6, Ppid: 7, Blocks: blocks(3), Dups: dups(3), Skips: skips(3),
		Params: []api.Param{{Kind: 8, V: []byte{9, 10}}, {Kind: 11, V: []byte{12, 13}}}, Data: []byte{14, 15, 16},
	}
}

// P7.3: a chunk is the same as itself and as a copy, whichever fields are set.
func TestSame(t *testing.T) {
	checkSame(t, "of nothing", api.Chunk{}, api.Chunk{}, true)
	checkSame(t, "of everything", everything(), everything(), true)
	for n := range 256 {
		for _, c := range []api.Chunk{least(uint8(n)), ordinary(uint8(n)), greatest(uint8(n))} {
			checkSame(t, "of a copy", c, copied(c), true)
			checkSame(t, "of itself", c, c, true)
		}
	}
}

// changes are ways in which just one field of everything becomes another.
func changes() map[string]func(*api.Chunk) {
	return map[string]func(*api.Chunk){
		"Kind": func(c *api.Chunk) { c.Kind ^= 128 }, "Kind 0": func(c *api.Chunk) { c.Kind = 0 },
		"Flags": func(c *api.Chunk) { c.Flags ^= 128 }, "Flags 0": func(c *api.Chunk) { c.Flags = 0 },
		"A": func(c *api.Chunk) { c.A ^= 1 << 31 }, "A 0": func(c *api.Chunk) { c.A = 0 },
		"B": func(c *api.Chunk) { c.B ^= 1 << 31 }, "B 0": func(c *api.Chunk) { c.B = 0 },
		"Out": func(c *api.Chunk) { c.Out ^= 1 << 15 }, "Out 0": func(c *api.Chunk) { c.Out = 0 },
		"In": func(c *api.Chunk) { c.In ^= 1 << 15 }, "In 0": func(c *api.Chunk) { c.In = 0 },
		"Ppid": func(c *api.Chunk) { c.Ppid ^= 1 << 31 }, "Ppid 0": func(c *api.Chunk) { c.Ppid = 0 },
		"no Blocks": func(c *api.Chunk) { c.Blocks = nil }, "a Block less": func(c *api.Chunk) { c.Blocks = c.Blocks[:2] },
		"a Block more": func(c *api.Chunk) { c.Blocks = append(c.Blocks, api.Block{}) }, "From": func(c *api.Chunk) { c.Blocks[0].From++ },
		"To": func(c *api.Chunk) { c.Blocks[2].To++ }, "From and To": func(c *api.Chunk) { c.Blocks[1].From, c.Blocks[1].To = c.Blocks[1].To, c.Blocks[1].From },
		"Blocks in another order": func(c *api.Chunk) { c.Blocks[0], c.Blocks[1] = c.Blocks[1], c.Blocks[0] },
		"no Dups":                 func(c *api.Chunk) { c.Dups = []uint32{} }, "a Dup less": func(c *api.Chunk) { c.Dups = c.Dups[:2] },
		"a Dup more": func(c *api.Chunk) { c.Dups = append(c.Dups, 0) }, "a Dup": func(c *api.Chunk) { c.Dups[2]++ },
		"Dups in another order": func(c *api.Chunk) { c.Dups[0], c.Dups[1] = c.Dups[1], c.Dups[0] },
		"no Skips":              func(c *api.Chunk) { c.Skips = nil }, "a Skip less": func(c *api.Chunk) { c.Skips = c.Skips[1:] },
		"a Skip more": func(c *api.Chunk) { c.Skips = append(c.Skips, api.Skip{}) }, "Stream": func(c *api.Chunk) { c.Skips[0].Stream++ },
		"Ssn": func(c *api.Chunk) { c.Skips[2].Ssn++ }, "Skips in another order": func(c *api.Chunk) { c.Skips[0], c.Skips[1] = c.Skips[1], c.Skips[0] },
		"no Params": func(c *api.Chunk) { c.Params = nil }, "a Param less": func(c *api.Chunk) { c.Params = c.Params[:1] },
		"a Param more": func(c *api.Chunk) { c.Params = append(c.Params, api.Param{}) }, "a Param's Kind": func(c *api.Chunk) { c.Params[1].Kind++ },
		"a Param's first octet": func(c *api.Chunk) { c.Params[0].V[0]++ }, "a Param's last octet": func(c *api.Chunk) { c.Params[1].V[1]++ },
		"a Param's octet less": func(c *api.Chunk) { c.Params[0].V = c.Params[0].V[:1] }, "a Param's octet more": func(c *api.Chunk) { c.Params[1].V = append(c.Params[1].V, 0) },
		"a Param of no octets":    func(c *api.Chunk) { c.Params[0].V = nil },
		"Params in another order": func(c *api.Chunk) { c.Params[0], c.Params[1] = c.Params[1], c.Params[0] },
		"no Data":                 func(c *api.Chunk) { c.Data = nil }, "an octet less": func(c *api.Chunk) { c.Data = c.Data[:2] },
		"an octet more": func(c *api.Chunk) { c.Data = append(c.Data, 0) }, "the first octet": func(c *api.Chunk) { c.Data[0]++ }, "the last octet": func(c *api.Chunk) { c.Data[2] ^= 128 },
	}
}

// P7.3: one field that differs makes two chunks differ, whether their kind has it or not.
func TestSameOfOneFieldThatDiffers(t *testing.T) {
	for name, change := range changes() {
		for _, flags := range []uint8{0, 9} {
			a, b := everything(), everything()
			a.Flags, b.Flags = flags+1, flags+1
			change(&b)
			checkSame(t, name, a, b, false)
		}
		for _, kind := range kinds() {
			a, b := everything(), everything()
			change(&b)
			if a.Kind == b.Kind {
				a.Kind, b.Kind = kind, kind
				checkSame(t, name, a, b, false)
			}
		}
	}
	for _, s := range singles() {
		for _, kind := range kinds() {
			c := api.Chunk{Kind: kind}
			s.set(&c)
			checkSame(t, s.name, api.Chunk{Kind: kind}, c, false)
		}
	}
}

// P7.3: values that stand in another field are not the same.
func TestSameOfFieldsChanged(t *testing.T) {
	checkSame(t, "A and B", api.Chunk{A: 1}, api.Chunk{B: 1}, false)
	checkSame(t, "A and B the other way", api.Chunk{A: 1, B: 2}, api.Chunk{A: 2, B: 1}, false)
	checkSame(t, "Out and In", api.Chunk{Out: 1, In: 2}, api.Chunk{Out: 2, In: 1}, false)
	checkSame(t, "Kind and Flags", api.Chunk{Kind: 1, Flags: 2}, api.Chunk{Kind: 2, Flags: 1}, false)
	checkSame(t, "Blocks and Skips", api.Chunk{Blocks: []api.Block{{From: 1, To: 2}}}, api.Chunk{Skips: []api.Skip{{Stream: 1, Ssn: 2}}}, false)
	two := func(a, b []byte) api.Chunk { return api.Chunk{Kind: 6, Params: []api.Param{{V: a}, {V: b}}} }
	checkSame(t, "octets in another value", two([]byte{1, 2}, []byte{3}), two([]byte{1}, []byte{2, 3}), false)
	checkSame(t, "octets in another value", two(nil, []byte{3}), two([]byte{3}, nil), false)
}

// P7.3: a list of no elements is the same as nil, in a parameter too.
func TestSameOfEmptyLists(t *testing.T) {
	empty := api.Chunk{Blocks: []api.Block{}, Dups: []uint32{}, Skips: []api.Skip{}, Params: []api.Param{}, Data: []byte{}}
	for _, kind := range kinds() {
		empty.Kind = kind
		checkSame(t, "nil and empty", api.Chunk{Kind: kind}, empty, true)
	}
	for _, c := range []api.Chunk{{Blocks: []api.Block{}}, {Dups: []uint32{}}, {Skips: []api.Skip{}}, {Params: []api.Param{}}, {Data: []byte{}}} {
		checkSame(t, "nil and one that is empty", api.Chunk{}, c, true)
		checkSame(t, "nil and a chunk that is something", c, everything(), false)
	}
	a := api.Chunk{Kind: 6, Params: []api.Param{{Kind: 1}, {Kind: 2, V: []byte{}}}}
	b := api.Chunk{Kind: 6, Params: []api.Param{{Kind: 1, V: []byte{}}, {Kind: 2}}}
	checkSame(t, "values of no octets", a, b, true)
	checkSame(t, "memory behind the lists", everything(), roomy(everything()), true)
}

// P7.3: chunks drawn from a fixed seed are the same just if all their fields are.
func TestSameRows(t *testing.T) {
	draw := rand.New(rand.NewSource(73))
	for range 3000 {
		a, b := drawnChunk(draw), drawnChunk(draw)
		checkSame(t, "a row", a, b, alike(a, b))
		b.Kind = a.Kind
		checkSame(t, "a row of one kind", keep(a), keep(b), alike(keep(a), keep(b)))
		checkSame(t, "a copy", a, copied(a), true)
	}
}
