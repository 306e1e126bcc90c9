package split_test

import (
	"math/rand"
	"testing"

	"bollard/api"
)

// pair are two chunks, the second of which follows the first one; from is the first one's number.
func pair(from uint32, free bool) (api.Chunk, api.Chunk) {
	a := api.Chunk{Kind: api.Data, Flags: flagsOf(free, true, false), A: from, Out: 3, In: 7, Ppid: 51, Data: []byte{1, 2}}
	b := api.Chunk{Kind: api.Data, Flags: flagsOf(free, false, true), A: from + 1, Out: 3, In: 7, Ppid: 51, Data: []byte{3}}
	return a, b
}

// P13.2: each place of a piece, the first one, a middle and the last one.
func TestFollows(t *testing.T) {
	for _, free := range []bool{false, true} {
		for _, from := range numbers {
			a, b := pair(from, free)
			checkFollows(t, "the first one, the last one", a, b, true)
			a.Flags = flagsOf(free, false, false)
			checkFollows(t, "a middle one, the last one", a, b, true)
			b.Flags = flagsOf(free, false, false)
			checkFollows(t, "two middle ones", a, b, true)
			checkFollows(t, "exchanged", b, a, false)
			checkFollows(t, "itself", a, a, false)
			a.Flags = flagsOf(free, true, false)
			checkFollows(t, "the first one, a middle one", a, b, true)
		}
	}
	checkFollows(t, "no fields", api.Chunk{}, api.Chunk{}, false)
	checkFollows(t, "no fields but a number", api.Chunk{}, api.Chunk{A: 1}, true)
	checkFollows(t, "no fields but a number, round", api.Chunk{A: top}, api.Chunk{}, true)
}

// P13.2: each condition broken alone.
func TestFollowsBroken(t *testing.T) {
	for _, x := range []struct {
		name string
		turn func(a, b *api.Chunk)
	}{
		{"a's kind", func(a, b *api.Chunk) { a.Kind = api.Init }},
		{"b's kind", func(a, b *api.Chunk) { b.Kind = api.Init }},
		{"both kinds", func(a, b *api.Chunk) { a.Kind, b.Kind = api.Init, api.Init }},
		{"the same number", func(a, b *api.Chunk) { b.A = a.A }},
		{"two more", func(a, b *api.Chunk) { b.A = a.A + 2 }},
		{"one less", func(a, b *api.Chunk) { b.A = a.A - 1 }},
		{"half of the way round", func(a, b *api.Chunk) { b.A = a.A + half }},
		{"half of the way round and one", func(a, b *api.Chunk) { b.A = a.A + half + 1 }},
		{"one more in the lower half alone", func(a, b *api.Chunk) { b.A = a.A + 1<<16 + 1 }},
		{"Out one more", func(a, b *api.Chunk) { b.Out++ }},
		{"Out one less", func(a, b *api.Chunk) { b.Out-- }},
		{"Out's high octet", func(a, b *api.Chunk) { a.Out += 256 }},
		{"In one more", func(a, b *api.Chunk) { b.In++ }},
		{"In one less", func(a, b *api.Chunk) { b.In-- }},
		{"In's high octet", func(a, b *api.Chunk) { a.In += 256 }},
		{"Ppid one more", func(a, b *api.Chunk) { b.Ppid++ }},
		{"Ppid one less", func(a, b *api.Chunk) { b.Ppid-- }},
		{"Ppid's high octet", func(a, b *api.Chunk) { a.Ppid += 1 << 24 }},
		{"Free of one alone, a", func(a, b *api.Chunk) { a.Flags ^= 4 }},
		{"Free of one alone, b", func(a, b *api.Chunk) { b.Flags ^= 4 }},
		{"an End of a", func(a, b *api.Chunk) { a.Flags |= 1 }},
		{"an End of a that has no Begin", func(a, b *api.Chunk) { a.Flags = a.Flags&4 | 1 }},
		{"a Begin of b", func(a, b *api.Chunk) { b.Flags |= 2 }},
		{"a Begin of b that has no End", func(a, b *api.Chunk) { b.Flags = b.Flags&4 | 2 }},
	} {
		for _, free := range []bool{false, true} {
			for _, from := range numbers {
				a, b := pair(from, free)
				checkFollows(t, "unbroken", a, b, true)
				x.turn(&a, &b)
				checkFollows(t, x.name, a, b, false)
			}
		}
	}
}

// P13.2: no kind but Data follows, or is followed.
func TestFollowsKinds(t *testing.T) {
	for kind := 1; kind < 256; kind++ {
		a, b := pair(9, false)
		a.Kind = uint8(kind)
		checkFollows(t, "a's kind", a, b, false)
		b.Kind = a.Kind
		checkFollows(t, "both kinds", a, b, false)
		a.Kind = api.Data
		checkFollows(t, "b's kind", a, b, false)
	}
}

// P13.2: all flags of both; of the bits above Free none matters.
func TestFollowsFlags(t *testing.T) {
	for f := range 256 {
		for g := range 256 {
			a, b := pair(top, false)
			a.Flags, b.Flags = uint8(f), uint8(g)
			checkFollows(t, "all flags", a, b, f%2 == 0 && g/2%2 == 0 && f/4%2 == g/4%2)
		}
	}
}

// P13.2: neither Data nor what the chapter does not name matters.
func TestFollowsOtherFields(t *testing.T) {
	others := []func(c *api.Chunk){
		func(c *api.Chunk) { c.B = 5 },
		func(c *api.Chunk) { c.Blocks = []api.Block{{From: 2, To: 3}} },
		func(c *api.Chunk) { c.Dups = []uint32{5} },
		func(c *api.Chunk) { c.Skips = []api.Skip{{Stream: 1, Ssn: 2}} },
		func(c *api.Chunk) { c.Params = []api.Param{{Kind: 7, V: []byte{9}}} },
		func(c *api.Chunk) { c.Data = nil },
		func(c *api.Chunk) { c.Data = []byte{} },
		func(c *api.Chunk) { c.Data = value(20000) },
	}
	for _, turn := range others {
		for _, apart := range []uint32{1, 2} {
			a, b := pair(9, true)
			b.A = a.A + apart
			turn(&a)
			checkFollows(t, "a's other fields", a, b, apart == 1)
			turn(&b)
			checkFollows(t, "the other fields of both", a, b, apart == 1)
			a, _ = pair(9, true)
			checkFollows(t, "b's other fields", a, b, apart == 1)
		}
	}
}

// P13.2: rows drawn from a fixed seed are as the chapter's words have them.
func TestFollowsRows(t *testing.T) {
	draw := rand.New(rand.NewSource(132))
	follows := 0
	for range 20000 {
		a, b := pair(drawnNumber(draw), draw.Intn(2) == 0)
		for _, c := range []*api.Chunk{&a, &b} {
			switch draw.Intn(12) {
			case 0:
				c.Kind = uint8(draw.Intn(3))
			case 1:
				c.A += uint32(draw.Intn(3)) - 1
			case 2:
				c.Out += uint16(draw.Intn(2))
			case 3:
				c.In += uint16(draw.Intn(2))
			case 4:
				c.Ppid += uint32(draw.Intn(2))
			case 5:
				c.Flags = uint8(draw.Intn(256))
			case 6:
				c.B, c.Data = draw.Uint32(), nil
			}
		}
		want := wordOfFollows(a, b)
		checkFollows(t, "a row", a, b, want)
		if want {
			follows++
		}
	}
	if follows < 4000 || follows > 16000 {
		t.Errorf("of the rows %d follow", follows)
	}
}
