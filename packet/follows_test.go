package packet_test

import (
	"bytes"
	"math/rand"
	"slices"
	"testing"

	"bollard/api"
	"bollard/crc"
	"bollard/packet"
)

// checkThereAndBack asks that a packet, written and read, is the same, and that its octets, read and written, are.
func checkThereAndBack(t *testing.T, what string, table []uint32, p api.Packet) []byte {
	t.Helper()
	b, err := packet.Encode(table, p)
	if err != api.OK {
		t.Errorf("%s: Encode of %d chunks tells %v", what, len(p.Chunks), err)
		return nil
	}
	got, err := packet.Decode(table, b)
	if err != api.OK || !samePacket(got, p) {
		t.Errorf("%s: %v is read as %v (%v)", what, p, got, err)
	}
	again, err := packet.Encode(table, got)
	if err != api.OK || !bytes.Equal(again, b) {
		t.Errorf("%s: %v is written as %v (%v)", what, b, again, err)
	}
	return b
}

// P8.4: packets of chunks of every kind are the same there and back.
func TestThereAndBack(t *testing.T) {
	for _, table := range tables() {
		var all []api.Chunk
		for kind := range 256 {
			c := ordinary(uint8(kind))
			checkThereAndBack(t, "a kind", table, api.Packet{From: 1, To: 65535, Tag: uint32(kind), Chunks: []api.Chunk{c}})
			if !slices.Contains(aloneKinds, c.Kind) {
				all = append(all, c)
				checkThereAndBack(t, "a kind twice", table, api.Packet{Tag: 1 << 31, Chunks: []api.Chunk{c, ack(), c}})
			}
		}
		groups, _ := packet.Bundle(all)
		if len(groups) == 0 {
			t.Error("no groups of all kinds")
		}
		for _, group := range groups {
			checkThereAndBack(t, "all kinds", table, api.Packet{From: 7, Chunks: group})
		}
	}
	for n := 1; n <= 64; n++ {
		checkThereAndBack(t, "a number of chunks", crc.Table(), api.Packet{Chunks: acks(n)})
	}
	for n := range 1185 {
		checkThereAndBack(t, "a number of octets", crc.Table(), api.Packet{Chunks: []api.Chunk{{Kind: api.CookieEcho, Data: value(n)}}})
	}
}

// P8.4: packets drawn from a fixed seed are the same there and back; their octets are, when they are read at all.
func TestRowsThereAndBack(t *testing.T) {
	draw := rand.New(rand.NewSource(84))
	table := crc.Table()
	packets, read := 0, 0
	for range 4000 {
		p := api.Packet{From: uint16(draw.Uint32()), To: uint16(draw.Uint32()), Tag: draw.Uint32(), Chunks: drawnChunks(draw, 6)}
		if _, err := wordOfEncode(table, p); err != api.OK {
			continue
		}
		packets++
		b := checkThereAndBack(t, "a row", table, p)
		if len(b) == 0 {
			continue
		}
		b[draw.Intn(len(b))] ^= 1 << draw.Intn(8)
		b = sealed(table, b)
		if got, err := packet.Decode(table, b); err == api.OK {
			read++
			if again, err := packet.Encode(table, got); err != api.OK || !bytes.Equal(again, b) {
				t.Errorf("%v is written as %v (%v)", b, again, err)
			}
		}
	}
	if packets < 1000 || read < 500 {
		t.Errorf("only %d packets, %d of octets", packets, read)
	}
}

// masks are what up to four neighbouring octets are turned by, the first of them and the last one for sure.
func masks(n int, draw *rand.Rand) [][]byte {
	drawn := make([]byte, n)
	for i := range drawn {
		drawn[i] = byte(1 + draw.Intn(255))
	}
	ends := make([]byte, n)
	ends[0], ends[n-1] = 128, 1
	return [][]byte{drawn, ends, bytes.Repeat([]byte{255}, n), bytes.Repeat([]byte{1}, n), bytes.Repeat([]byte{128}, n)}
}

// P8.4: up to four neighbouring octets turned, all of them ahead of the checksum, within it, or behind it.
func TestNeighboursTurned(t *testing.T) {
	draw := rand.New(rand.NewSource(85))
	table := crc.Table()
	for _, l := range [][]api.Chunk{acks(1), {ordinary(api.InitAck)}, {ordinary(0), ordinary(3), ordinary(192), ordinary(6)}, acks(64), {taking(1188)}} {
		b := checkThereAndBack(t, "not turned", table, api.Packet{From: 5000, To: 5001, Tag: draw.Uint32(), Chunks: l})
		for _, part := range [][2]int{{0, 8}, {8, 12}, {12, len(b)}} {
			for n := 1; n <= 4; n++ {
				for at := part[0]; at+n <= part[1]; at++ {
					for _, mask := range masks(n, draw) {
						turned := slices.Clone(b)
						for i, x := range mask {
							turned[at+i] ^= x
						}
						checkError(t, "neighbours turned", table, turned, api.ErrSum)
					}
				}
			}
		}
	}
}

// marks are lists each of which is filled with a number of its own, as far as its memory goes.
type marks struct {
	next  byte
	holds []func() bool
}

// fillAll fills a list, and notes how it is seen that it holds what it was filled with.
func fillAll[E comparable](m *marks, l []E, of func(byte) E) {
	if cap(l) == 0 {
		return
	}
	m.next++
	l, x := l[:cap(l)], of(m.next)
	for i := range l {
		l[i] = x
	}
	m.holds = append(m.holds, func() bool { return !slices.ContainsFunc(l, func(e E) bool { return e != x }) })
}

// fillPlaces is fillAll for a list whose elements have lists of their own, which stay; a field of each element is filled.
func fillPlaces[E any](m *marks, l []E, field func(*E) *uint16) {
	if cap(l) == 0 {
		return
	}
	m.next++
	l, x := l[:cap(l)], uint16(m.next)
	for i := range l {
		*field(&l[i]) = x
	}
	m.holds = append(m.holds, func() bool { return !slices.ContainsFunc(l, func(e E) bool { return *field(&e) != x }) })
}

func (m *marks) octets(b []byte) { fillAll(m, b, func(n byte) byte { return n }) }

// chunks fills all lists of chunks, and the list of them.
func (m *marks) chunks(l []api.Chunk) {
	for _, c := range l {
		fillAll(m, c.Blocks, func(n byte) api.Block { return api.Block{From: uint16(n)} })
		fillAll(m, c.Dups, func(n byte) uint32 { return uint32(n) })
		fillAll(m, c.Skips, func(n byte) api.Skip { return api.Skip{Ssn: uint16(n)} })
		for _, p := range c.Params {
			m.octets(p.V)
		}
		fillPlaces(m, c.Params, func(p *api.Param) *uint16 { return &p.Kind })
		m.octets(c.Data)
	}
	fillPlaces(m, l, func(c *api.Chunk) *uint16 { return &c.Out })
}

// check asks that no list was filled by what filled another one.
func (m *marks) check(t *testing.T, what string, least int) {
	t.Helper()
	if len(m.holds) < least || len(m.holds) > 255 {
		t.Fatalf("%s: %d lists", what, len(m.holds))
	}
	for i, holds := range m.holds {
		if !holds() {
			t.Errorf("%s: list %d shares memory with another one", what, i)
		}
	}
}

// withLists are chunks of every kind that has lists.
func withLists() []api.Chunk {
	return []api.Chunk{ordinary(0), ordinary(3), ordinary(4), ordinary(192), ordinary(10), ordinary(99), ordinary(9)}
}

// R3: what Encode answers is new memory.
func TestEncodeIsNewMemory(t *testing.T) {
	table, p := crc.Table(), api.Packet{From: 1, To: 2, Tag: 3, Chunks: withLists()}
	want, _ := wordOfEncode(table, p)
	one, _ := packet.Encode(table, p)
	other, _ := packet.Encode(table, p)
	var m marks
	m.octets(one)
	if !bytes.Equal(other, want) || !slices.Equal(table, crc.Table()) || !sameChunks(p.Chunks, withLists()) {
		t.Error("an answer that is written to changes another one, or what was handed in")
	}
	m.chunks(p.Chunks)
	fillAll(&m, table, func(n byte) uint32 { return uint32(n) })
	if !bytes.Equal(other, want) {
		t.Error("what was handed in changes an answer")
	}
	m.octets(other)
	m.check(t, "Encode", 15)
}

// R3: what Decode answers is new memory, of which no two lists share any.
func TestDecodeIsNewMemory(t *testing.T) {
	for _, l := range [][]api.Chunk{withLists(), {ordinary(api.Init)}, {ordinary(api.InitAck)}, {taking(1188)}} {
		table, whole := crc.Table(), append(seal(octetsOf(l)...), 77, 77, 77, 77)
		before := slices.Clone(whole)
		b := whole[:len(whole)-4]
		one, _ := packet.Decode(table, b)
		other, _ := packet.Decode(table, b)
		var m marks
		m.chunks(one.Chunks)
		if !sameChunks(other.Chunks, l) || !slices.Equal(table, crc.Table()) || !bytes.Equal(whole, before) {
			t.Error("an answer that is written to changes another one, or what was handed in")
		}
		m.octets(whole)
		fillAll(&m, table, func(n byte) uint32 { return uint32(n) })
		if !sameChunks(other.Chunks, l) {
			t.Error("what was handed in changes an answer")
		}
		m.chunks(other.Chunks)
		m.check(t, "Decode", 6)
	}
}

// R3: what Bundle answers is new memory, of which no two lists share any, even where what was handed in does.
func TestBundleIsNewMemory(t *testing.T) {
	l := append(slices.Concat(withLists(), []api.Chunk{ordinary(1)}, withLists(), []api.Chunk{taking(1188), ack()}), ack())
	l[8].Data, l[12].Data = l[0].Data, l[0].Data
	l[9].Blocks, l[9].Dups, l[10].Params, l[11].Skips = l[1].Blocks, l[1].Dups, l[2].Params, l[3].Skips
	l[14].Params, l[7].Params = []api.Param{l[2].Params[0], l[2].Params[0]}, l[2].Params
	l[14].Params[1].Kind = 9
	want := copied(l)
	one, _ := packet.Bundle(l)
	other, _ := packet.Bundle(l)
	var m marks
	for _, group := range one {
		m.chunks(group)
	}
	if !sameChunks(slices.Concat(other...), want) || !sameChunks(l, want) {
		t.Error("an answer that is written to changes another one, or what was handed in")
	}
	for i := range l {
		l[i].A, l[i].Flags = 42, 42
	}
	var handedIn marks
	handedIn.chunks(l)
	if !sameChunks(slices.Concat(other...), want) {
		t.Error("what was handed in changes an answer")
	}
	for _, group := range other {
		m.chunks(group)
	}
	m.check(t, "Bundle", 60)
}

// R3: a group that is made longer leaves the others, and what stands behind the chunks that were handed in.
func TestGroupsMadeLonger(t *testing.T) {
	l := append(acks(200), api.Chunk{Kind: api.Shutdown, A: 5})
	for i := range 4 {
		groups, _ := packet.Bundle(l[:200])
		_ = append(groups[i], api.Chunk{Kind: api.Error})
		if !sameChunks(slices.Concat(groups...), acks(200)) || l[200].A != 5 {
			t.Errorf("group %d made longer changes others", i)
		}
	}
}

// P1: any octets at all, with and without their checksum.
func TestAnyOctets(t *testing.T) {
	draw := rand.New(rand.NewSource(86))
	table := crc.Table()
	for n := range 5000 {
		b := make([]byte, draw.Intn(n+1))
		draw.Read(b)
		for _, x := range [][]byte{b, append(make([]byte, 12), b...)} {
			if len(x) >= 12 {
				x = sealed(table, x)
			}
			want, err := wordOfDecode(table, x)
			checkDecode(t, "any octets", table, x, want, err)
		}
		_, err := wordOfDecode(table, b)
		checkError(t, "any octets without their checksum", table, b, err)
	}
	for n := range 1300 {
		for _, x := range []byte{0, 1, 4, 14, 255} {
			b := sealed(table, bytes.Repeat([]byte{x}, n+12))
			want, err := wordOfDecode(table, b)
			checkDecode(t, "the same octets", table, b, want, err)
		}
	}
}

// P1: very many chunks, very many octets, very long lists.
func TestVeryMany(t *testing.T) {
	table := crc.Table()
	many := acks(300000)
	checkEncode(t, "very many", table, api.Packet{Chunks: many}, nil, api.ErrLarge)
	groups, err := packet.Bundle(many)
	if err != api.OK || len(groups) != 4688 || len(groups[4687]) != 32 {
		t.Errorf("very many are %d groups (%v)", len(groups), err)
	}
	many[len(many)-1].A = 1
	checkEncode(t, "very many, the last one not shaped", table, api.Packet{Chunks: many}, nil, api.ErrArg)
	checkError(t, "very many octets", table, make([]byte, 5000000), api.ErrLarge)
	checkError(t, "very many numbers", make([]uint32, 5000000), seal(8, 0, 0, 4), api.ErrArg)
	for _, c := range []api.Chunk{
		{Data: make([]byte, 5000000)}, {Kind: 3, Dups: make([]uint32, 5000000)}, {Kind: 1, Params: make([]api.Param, 1000000)}, {Kind: 192, Skips: make([]api.Skip, 1000000)},
	} {
		if got := packet.Size(c); got != 0 {
			t.Errorf("Size of a very long list is %d", got)
		}
		checkEncode(t, "a very long list", table, api.Packet{Chunks: []api.Chunk{c}}, nil, api.ErrArg)
		if got, err := packet.Bundle([]api.Chunk{c}); err != api.ErrArg || got != nil {
			t.Errorf("a very long list is %d groups (%v)", len(got), err)
		}
	}
}

// R3: one answer does not hang on what was asked ahead of it.
func TestNothingIsKept(t *testing.T) {
	table := crc.Table()
	p := api.Packet{From: 258, To: 772, Tag: 84281096, Chunks: withLists()}
	good, _ := wordOfEncode(table, p)
	turned := slices.Clone(good)
	turned[9] ^= 1
	for _, bad := range [][]byte{nil, good[:15], turned, seal(8, 0, 0, 3), seal(octetsOf(acks(65))...), seal(octetsOf([]api.Chunk{ack(), ordinary(1)})...)} {
		packet.Decode(table, bad)
		packet.Decode(table[1:], good)
		checkDecode(t, "behind an error", table, good, p, api.OK)
		packet.Encode(table, api.Packet{Chunks: append(acks(64), ordinary(1))})
		checkEncode(t, "behind an error", table, p, good, api.OK)
		packet.Bundle([]api.Chunk{ack(), taking(1192)})
		checkGroups(t, "behind an error", p.Chunks, len(p.Chunks))
	}
}
