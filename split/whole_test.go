package split_test

import (
	"bytes"
	"math/rand"
	"slices"
	"testing"

	"bollard/api"
)

// P13.3: no chunks are no message.
func TestWholeOfNone(t *testing.T) {
	checkWhole(t, "nil", nil, false)
	checkWhole(t, "an empty list", []api.Chunk{}, false)
	checkWhole(t, "none of several", piecesOf(3, 9)[:0], false)
}

// P13.3: one chunk is a message with Begin and End, and with both alone; bits above Free do not matter.
func TestWholeOfOne(t *testing.T) {
	for flags := range 256 {
		c := api.Chunk{Kind: api.Data, Flags: uint8(flags), A: 9, Out: 3, In: 7, Ppid: 51, Data: []byte{1, 2}}
		want := flags%4 == 3
		m := checkWhole(t, "one", []api.Chunk{c}, want)
		if want && (m.Stream != 3 || m.Ppid != 51 || m.Unordered != (flags/4%2 == 1) || !bytes.Equal(m.Data, []byte{1, 2})) {
			t.Errorf("the message of %v is %v", c, m)
		}
		c.Kind = api.Init
		checkWhole(t, "one of another kind", []api.Chunk{c}, false)
	}
	for kind := 1; kind < 256; kind++ {
		checkWhole(t, "each other kind", []api.Chunk{{Kind: uint8(kind), Flags: 3, Data: []byte{1}}}, false)
	}
	checkWhole(t, "no fields", []api.Chunk{{}}, false)
	checkWhole(t, "no fields but flags", []api.Chunk{{Flags: 3}}, true)
}

// P13.3: Stream, Ppid and Unordered are the first one's, In and A are not told.
func TestWholeFields(t *testing.T) {
	for _, free := range []bool{false, true} {
		for _, stream := range []uint16{0, 1, 63, 64, 256, topShort} {
			for _, ppid := range []uint32{0, 1, 51, 1 << 24, half, top} {
				for _, tsn := range numbers {
					l := []api.Chunk{
						{Flags: flagsOf(free, true, false), A: tsn, Out: stream, In: 7, Ppid: ppid, Data: []byte{5, 4}},
						{Flags: flagsOf(free, false, false), A: tsn + 1, Out: stream, In: 7, Ppid: ppid, Data: []byte{3}},
						{Flags: flagsOf(free, false, true), A: tsn + 2, Out: stream, In: 7, Ppid: ppid, Data: []byte{2, 1, 0}},
					}
					m := checkWhole(t, "fields", l, true)
					if m.Stream != stream || m.Ppid != ppid || m.Unordered != free || !bytes.Equal(m.Data, []byte{5, 4, 3, 2, 1, 0}) {
						t.Errorf("the message of %v is %v", l, m)
					}
				}
			}
		}
	}
}

// P13.3: lists of five that are no message, each for another reason.
func TestWholeBroken(t *testing.T) {
	for _, x := range []struct {
		name string
		turn func(l []api.Chunk) []api.Chunk
	}{
		{"the first one's kind", func(l []api.Chunk) []api.Chunk { l[0].Kind = api.Init; return l }},
		{"a middle one's kind", func(l []api.Chunk) []api.Chunk { l[2].Kind = api.Forward; return l }},
		{"the last one's kind", func(l []api.Chunk) []api.Chunk { l[4].Kind = api.Sack; return l }},
		{"without the first one", func(l []api.Chunk) []api.Chunk { return l[1:] }},
		{"without the last one", func(l []api.Chunk) []api.Chunk { return l[:4] }},
		{"without the first and the last one", func(l []api.Chunk) []api.Chunk { return l[1:4] }},
		{"the first one alone", func(l []api.Chunk) []api.Chunk { return l[:1] }},
		{"a middle one alone", func(l []api.Chunk) []api.Chunk { return l[2:3] }},
		{"the last one alone", func(l []api.Chunk) []api.Chunk { return l[4:] }},
		{"the first and the last one", func(l []api.Chunk) []api.Chunk { return []api.Chunk{l[0], l[4]} }},
		{"backward", func(l []api.Chunk) []api.Chunk { slices.Reverse(l); return l }},
		{"another message behind it", func(l []api.Chunk) []api.Chunk { return append(l, piecesOf(5, 14)...) }},
		{"the same message behind it", func(l []api.Chunk) []api.Chunk { return append(l, piecesOf(5, 9)...) }},
		{"another message of one piece behind it", func(l []api.Chunk) []api.Chunk { return append(l, piecesOf(1, 14)...) }},
		{"another message of one piece ahead", func(l []api.Chunk) []api.Chunk { return append(piecesOf(1, 8), l...) }},
		{"no Begin", func(l []api.Chunk) []api.Chunk { l[0].Flags = 0; return l }},
		{"no End", func(l []api.Chunk) []api.Chunk { l[4].Flags = 0; return l }},
		{"an End of the first one", func(l []api.Chunk) []api.Chunk { l[0].Flags = 3; return l }},
		{"a Begin of the last one", func(l []api.Chunk) []api.Chunk { l[4].Flags = 3; return l }},
		{"Free of the first one alone", func(l []api.Chunk) []api.Chunk { l[0].Flags |= 4; return l }},
		{"Free of a middle one alone", func(l []api.Chunk) []api.Chunk { l[2].Flags |= 4; return l }},
		{"Free of the last one alone", func(l []api.Chunk) []api.Chunk { l[4].Flags |= 4; return l }},
	} {
		checkWhole(t, x.name, x.turn(piecesOf(5, 9)), false)
	}
	checkWhole(t, "unbroken", piecesOf(5, 9), true)
}

// P13.3: a fault at each place of lists of each length up to seven.
func TestWholeBrokenAnywhere(t *testing.T) {
	for n := 2; n <= 7; n++ {
		for at := range n {
			for _, x := range []struct {
				name string
				turn func(c *api.Chunk)
			}{
				{"another kind", func(c *api.Chunk) { c.Kind = api.Init }},
				{"a number one more", func(c *api.Chunk) { c.A++ }},
				{"a number one less", func(c *api.Chunk) { c.A-- }},
				{"another Out", func(c *api.Chunk) { c.Out++ }},
				{"another In", func(c *api.Chunk) { c.In++ }},
				{"another Ppid", func(c *api.Chunk) { c.Ppid++ }},
				{"Free", func(c *api.Chunk) { c.Flags ^= 4 }},
			} {
				l := piecesOf(n, top-3)
				x.turn(&l[at])
				checkWhole(t, x.name, l, false)
			}
			l := piecesOf(n, top-3)
			l[at].Flags ^= 1
			checkWhole(t, "an End more, or the last one's less", l, false)
			l = piecesOf(n, top-3)
			l[at].Flags ^= 2
			checkWhole(t, "a Begin more, or the first one's less", l, false)
		}
	}
}

// P13.3: one left out, one twice and two exchanged, at each place.
func TestWholeOutOfOrder(t *testing.T) {
	for n := 2; n <= 7; n++ {
		for at := range n {
			checkWhole(t, "one left out", slices.Delete(piecesOf(n, top-3), at, at+1), false)
			l := piecesOf(n, top-3)
			checkWhole(t, "one twice", slices.Insert(l, at, copied(l[at:at+1])...), false)
			for other := range at {
				l := piecesOf(n, top-3)
				l[at], l[other] = l[other], l[at]
				checkWhole(t, "two exchanged", l, false)
			}
		}
		checkWhole(t, "in order", piecesOf(n, top-3), true)
	}
}

// P13.3: pieces without Data add nothing, wherever they stand.
func TestWholePiecesWithoutData(t *testing.T) {
	for n := 1; n <= 5; n++ {
		for without := range 1 << n {
			l := piecesOf(n, top-1)
			var want []byte
			for i := range l {
				if without>>i%2 == 0 {
					want = append(want, l[i].Data...)
				} else {
					l[i].Data = [][]byte{nil, {}}[i%2]
				}
			}
			if m := checkWhole(t, "pieces without Data", l, true); !bytes.Equal(m.Data, want) {
				t.Errorf("the Data of %v is %v, want %v", l, m.Data, want)
			}
		}
	}
}

// P13.3: pieces of any length, and more octets than a message that is split may have.
func TestWholeOfLongPieces(t *testing.T) {
	l := piecesOf(4, top-1)
	l[0].Data, l[1].Data, l[3].Data = value(1173), value(20000), value(70000)
	if m := checkWhole(t, "long pieces", l, true); len(m.Data) != 1173+20000+1+70000 {
		t.Errorf("the message has %d octets", len(m.Data))
	}
	checkWhole(t, "one long piece", []api.Chunk{{Flags: 3, Data: value(16385)}}, true)
}

// P13.3: fields that the chapter does not name, and bits above Free, do not matter.
func TestWholeOtherFields(t *testing.T) {
	l := piecesOf(4, 9)
	for i := range l {
		c := &l[i]
		c.Flags |= uint8(i) << 6
		c.B, c.Blocks, c.Dups = uint32(i), []api.Block{{From: uint16(i)}}, []uint32{uint32(i)}
		c.Skips, c.Params = make([]api.Skip, i), make([]api.Param, i)
	}
	checkWhole(t, "other fields", l, true)
	l[2].A++
	checkWhole(t, "other fields, and a fault", l, false)
}

// broken are chunks of messages, with or without a fault that is drawn.
func broken(draw *rand.Rand) []api.Chunk {
	m := drawnMessage(draw, 30)
	words, _ := wordOfSplit(m, drawnNumber(draw), uint16(draw.Intn(65536)), 1+draw.Intn(10))
	l := copied(words)
	if len(l) == 0 {
		return nil
	}
	at, other := draw.Intn(len(l)), draw.Intn(len(l))
	switch draw.Intn(14) {
	case 0:
		l[at], l[other] = l[other], l[at]
	case 1:
		l = slices.Delete(l, at, at+1)
	case 2:
		l = slices.Insert(l, other, l[at])
	case 3:
		l[at].Flags = uint8(draw.Intn(256))
	case 4:
		l[at].Kind = uint8(draw.Intn(2))
	case 5:
		l[at].A += uint32(draw.Intn(3)) - 1
	case 6:
		l[at].Out, l[at].In, l[at].Ppid = l[other].Out, l[other].In+uint16(draw.Intn(2)), l[other].Ppid+uint32(draw.Intn(2))
	case 7:
		l[at].Data, l[other].B = nil, draw.Uint32()
	case 8:
		l = append(l, broken(draw)...)
	}
	return l
}

// P13.3: rows drawn from a fixed seed are as the chapter's words have them.
func TestWholeRows(t *testing.T) {
	draw := rand.New(rand.NewSource(133))
	whole := 0
	for range 10000 {
		l := broken(draw)
		_, want := wordOfWhole(l)
		checkWhole(t, "a row", l, want)
		if want {
			whole++
		}
	}
	if whole < 2000 || whole > 8000 {
		t.Errorf("of the rows %d are whole", whole)
	}
}
