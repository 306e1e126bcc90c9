package packet_test

import (
	"bytes"
	"math/rand"
	"reflect"
	"slices"
	"testing"

	"bollard/api"
	"bollard/chunk"
	"bollard/crc"
	"bollard/packet"
)

// wordOfSum says crc.Sum of octets, plainly.
func wordOfSum(table []uint32, b []byte) uint32 {
	sum := uint32(1<<32 - 1)
	for _, x := range b {
		sum = sum>>8 ^ table[byte(sum)^x]
	}
	return ^sum
}

// sealed is a packet's octets with their checksum in its place, its lowest octet first.
func sealed(table []uint32, b []byte) []byte {
	out := slices.Clone(b)
	copy(out[8:12], []byte{0, 0, 0, 0})
	sum := wordOfSum(table, out)
	for i := range 4 {
		out[8+i] = byte(sum >> (8 * i))
	}
	return out
}

// seal is a packet of octets that may be no chunks, under the checksum.
func seal(behind ...byte) []byte {
	return sealed(crc.Table(), append([]byte{1, 2, 3, 4, 5, 6, 7, 8, 0, 0, 0, 0}, behind...))
}

// octetsOf are chunks' octets, one behind the other.
func octetsOf(l []api.Chunk) []byte {
	var b []byte
	for _, c := range l {
		one, _ := chunk.Encode(c)
		b = append(b, one...)
	}
	return b
}

// wordOfAlone says that one that stands alone has others beside it.
func wordOfAlone(l []api.Chunk) bool {
	for _, c := range l {
		if len(l) > 1 && (c.Kind == 1 || c.Kind == 2 || c.Kind == 14) {
			return true
		}
	}
	return false
}

func wordOfShaped(l []api.Chunk) bool {
	for _, c := range l {
		if !chunk.Shaped(c) {
			return false
		}
	}
	return true
}

// wordOfEncode says P8.1.
func wordOfEncode(table []uint32, p api.Packet) ([]byte, api.Errno) {
	if len(table) != 256 || len(p.Chunks) == 0 || !wordOfShaped(p.Chunks) || wordOfAlone(p.Chunks) {
		return nil, api.ErrArg
	}
	behind := octetsOf(p.Chunks)
	if len(p.Chunks) > 64 || 12+len(behind) > 1200 {
		return nil, api.ErrLarge
	}
	b := []byte{
		byte(p.From >> 8), byte(p.From), byte(p.To >> 8), byte(p.To),
		byte(p.Tag >> 24), byte(p.Tag >> 16), byte(p.Tag >> 8), byte(p.Tag), 0, 0, 0, 0,
	}
	return sealed(table, append(b, behind...)), api.OK
}

// wordOfDecode says P8.2.
func wordOfDecode(table []uint32, b []byte) (api.Packet, api.Errno) {
	if len(table) != 256 {
		return api.Packet{}, api.ErrArg
	}
	if len(b) > 1200 {
		return api.Packet{}, api.ErrLarge
	}
	if len(b) < 16 {
		return api.Packet{}, api.ErrShort
	}
	if !bytes.Equal(sealed(table, b), b) {
		return api.Packet{}, api.ErrSum
	}
	p := api.Packet{From: half(b[0:2]), To: half(b[2:4]), Tag: uint32(half(b[4:6]))<<16 | uint32(half(b[6:8]))}
	for at := 12; at < len(b); {
		if len(p.Chunks) == 64 {
			return api.Packet{}, api.ErrLarge
		}
		c, n, err := chunk.Decode(b[at:])
		if err != api.OK {
			return api.Packet{}, err
		}
		p.Chunks = append(p.Chunks, c)
		at += n
	}
	if wordOfAlone(p.Chunks) {
		return api.Packet{}, api.ErrForm
	}
	return p, api.OK
}

func half(b []byte) uint16 { return uint16(b[0])<<8 | uint16(b[1]) }

// wordOfBundle says P8.3: a chunk goes in the group that there is, unless that one would break a bound.
func wordOfBundle(l []api.Chunk) ([][]api.Chunk, api.Errno) {
	if !wordOfShaped(l) {
		return nil, api.ErrArg
	}
	var out [][]api.Chunk
	var group []api.Chunk
	for _, c := range l {
		if len(octetsOf([]api.Chunk{c})) > 1188 {
			return nil, api.ErrLarge
		}
		with := append(slices.Clone(group), c)
		if len(with) > 64 || len(octetsOf(with)) > 1188 || wordOfAlone(with) {
			out = append(out, group)
			with = []api.Chunk{c}
		}
		group = with
	}
	if len(group) > 0 {
		out = append(out, group)
	}
	return out, api.OK
}

// sameChunks tells that chunks are the same, one by one.
func sameChunks(a, b []api.Chunk) bool { return slices.EqualFunc(a, b, chunk.Same) }

func samePacket(a, b api.Packet) bool {
	return a.From == b.From && a.To == b.To && a.Tag == b.Tag && sameChunks(a.Chunks, b.Chunks)
}

// copied are chunks in memory of their own.
func copied(l []api.Chunk) []api.Chunk {
	out := slices.Clone(l)
	for i, c := range out {
		c.Blocks, c.Dups, c.Skips = slices.Clone(c.Blocks), slices.Clone(c.Dups), slices.Clone(c.Skips)
		c.Params, c.Data = slices.Clone(c.Params), slices.Clone(c.Data)
		for k := range c.Params {
			c.Params[k].V = slices.Clone(c.Params[k].V)
		}
		out[i] = c
	}
	return out
}

// checkEncode asks what a packet is as octets; beside an error there are none, and what is handed in stays.
func checkEncode(t *testing.T, what string, table []uint32, p api.Packet, want []byte, wantErr api.Errno) {
	t.Helper()
	tableBefore, before := slices.Clone(table), copied(p.Chunks)
	got, err := packet.Encode(table, p)
	if err != wantErr || !bytes.Equal(got, want) {
		t.Errorf("%s: Encode of %d chunks is %v (%v), want %v (%v)", what, len(p.Chunks), got, err, want, wantErr)
	}
	if err != api.OK && got != nil {
		t.Errorf("%s: Encode is %v beside an error", what, got)
	}
	if !slices.Equal(table, tableBefore) || !reflect.DeepEqual(p.Chunks, before) {
		t.Errorf("%s: what was handed in is changed", what)
	}
}

// checkWritten asks that a packet is written as the chapter's words have it, and answers its octets.
func checkWritten(t *testing.T, what string, table []uint32, p api.Packet, wantErr api.Errno) []byte {
	t.Helper()
	want, err := wordOfEncode(table, p)
	if err != wantErr {
		t.Errorf("%s: the words tell %v, want %v", what, err, wantErr)
	}
	checkEncode(t, what, table, p, want, err)
	return want
}

// checkDecode asks what octets are as a packet; beside an error there is none, and what is handed in stays.
func checkDecode(t *testing.T, what string, table []uint32, b []byte, want api.Packet, wantErr api.Errno) {
	t.Helper()
	tableBefore, before := slices.Clone(table), slices.Clone(b)
	got, err := packet.Decode(table, b)
	if err != wantErr || !samePacket(got, want) {
		t.Errorf("%s: Decode of %d octets, %v.., is %v (%v), want %v (%v)", what, len(b), b[:min(len(b), 24)], got, err, want, wantErr)
	}
	if err != api.OK && !reflect.DeepEqual(got, api.Packet{}) {
		t.Errorf("%s: Decode is %v beside an error", what, got)
	}
	if !slices.Equal(table, tableBefore) || !bytes.Equal(b, before) {
		t.Errorf("%s: what was handed in is changed", what)
	}
}

// checkError asks that octets are no packet, for a reason.
func checkError(t *testing.T, what string, table []uint32, b []byte, want api.Errno) {
	t.Helper()
	checkDecode(t, what, table, b, api.Packet{}, want)
}

// checkRead asks that octets are read as the chapter's words have it.
func checkRead(t *testing.T, what string, table []uint32, b []byte, wantErr api.Errno) {
	t.Helper()
	want, err := wordOfDecode(table, b)
	if err != wantErr {
		t.Errorf("%s: the words tell %v, want %v", what, err, wantErr)
	}
	checkDecode(t, what, table, b, want, err)
}

// checkBundle asks that chunks are in groups as the chapter's words have it, that the groups, one behind the other, are the chunks, and that each can be encoded; it answers how many chunks each has.
func checkBundle(t *testing.T, what string, l []api.Chunk, wantErr api.Errno) []int {
	t.Helper()
	before := copied(l)
	want, err := wordOfBundle(l)
	if err != wantErr {
		t.Errorf("%s: the words tell %v, want %v", what, err, wantErr)
	}
	got, err := packet.Bundle(l)
	if err != wantErr || !slices.EqualFunc(got, want, sameChunks) {
		t.Errorf("%s: Bundle is %v (%v), want %v (%v)", what, counts(got), err, counts(want), wantErr)
	}
	if err != api.OK && got != nil {
		t.Errorf("%s: Bundle is %v beside an error", what, got)
	}
	if err == api.OK && !sameChunks(slices.Concat(got...), l) {
		t.Errorf("%s: the groups, one behind the other, are not the chunks", what)
	}
	for _, group := range got {
		if b, err := packet.Encode(crc.Table(), api.Packet{Chunks: group}); err != api.OK || len(b) > 1200 {
			t.Errorf("%s: a group of %d can not be encoded: %v", what, len(group), err)
		}
	}
	if !reflect.DeepEqual(l, before) {
		t.Errorf("%s: what was handed in is changed", what)
	}
	return counts(got)
}

// counts are how many chunks groups have.
func counts(groups [][]api.Chunk) []int {
	var n []int
	for _, g := range groups {
		n = append(n, len(g))
	}
	return n
}

// tables are tables that may be: the checksum's own first, then others.
func tables() [][]uint32 {
	own := crc.Table()
	backward := slices.Clone(own)
	slices.Reverse(backward)
	far := make([]uint32, 256)
	for i := range far {
		far[i] = uint32(i)*2654435761 + 12345
	}
	return [][]uint32{own, backward, far, make([]uint32, 256), slices.Repeat([]uint32{1<<32 - 1}, 256)}
}

// badTables are tables that may not be.
func badTables() [][]uint32 {
	own := crc.Table()
	return [][]uint32{nil, {}, own[:1], own[:255], own[1:], append(slices.Clone(own), 0), append(slices.Clone(own), own...)}
}

// kinds are all that the chapter of chunks names, and some that nobody knows.
var kinds = []uint8{0, 1, 2, 3, 4, 5, 6, 7, 8, 9, 10, 11, 14, 130, 192, 12, 13, 15, 127, 131, 191, 193, 255}

// aloneKinds are those that stand alone.
var aloneKinds = []uint8{api.Init, api.InitAck, api.ShutdownDone}

// value are n octets, none of them 0, so that none is like those that fill up.
func value(n int) []byte {
	v := make([]byte, n)
	for i := range v {
		v[i] = byte(i%255 + 1)
	}
	return v
}

// ordinary is a chunk of a kind, each of whose fields is set; its last one fills up where it can.
func ordinary(kind uint8) api.Chunk {
	c := api.Chunk{Kind: kind, Flags: kind ^ 5}
	params := []api.Param{{Kind: 7, V: value(5)}, {Kind: 65535}, {Kind: 32773, V: value(4)}}
	switch kind {
	case api.Data:
		c.A, c.Out, c.In, c.Ppid, c.Data = 1<<31+1, 2, 3, 4<<24, value(6)
	case api.Init, api.InitAck:
		c.A, c.B, c.Out, c.In, c.Ppid, c.Params = 1, 2<<24, 3, 4<<8, 5<<16, params
	case api.Sack:
		c.A, c.B = 1<<24+1, 2
		c.Blocks, c.Dups = []api.Block{{From: 2, To: 3}, {From: 5, To: 65535}}, []uint32{8, 9 << 24, 10}
	case api.Heartbeat, api.HeartbeatAck, api.Abort, api.Error, api.Reset:
		c.Params = params
	case api.Shutdown:
		c.A = 1<<24 + 9
	case api.ShutdownAck, api.CookieAck, api.ShutdownDone:
	case api.Forward:
		c.A, c.Skips = 77<<8, []api.Skip{{Stream: 1, Ssn: 2}, {Stream: 3, Ssn: 65535}}
	default:
		c.Data = value(5)
	}
	return c
}

// greatest is a chunk of a kind, each of whose fields is the greatest number, or as long as may be; most of them have no room in a packet.
func greatest(kind uint8) api.Chunk {
	c := ordinary(kind)
	c.Flags = 255
	for _, n := range []*uint32{&c.A, &c.B, &c.Ppid} {
		if *n != 0 {
			*n = 1<<32 - 1
		}
	}
	for _, n := range []*uint16{&c.Out, &c.In} {
		if *n != 0 {
			*n = 65535
		}
	}
	c.Blocks, c.Dups, c.Skips = fill(c.Blocks, 64), fill(c.Dups, 64), fill(c.Skips, 64)
	c.Params, c.Data = fill(c.Params, 32), fill(c.Data, 1200)
	for i := range c.Params {
		c.Params[i].V = value(1200)
	}
	return c
}

// fill is a list of n elements, all of them its first one; none of an empty one.
func fill[E any](l []E, n int) []E {
	if len(l) == 0 {
		return nil
	}
	return slices.Repeat(l[:1], n)
}

// ack is a chunk of 4 octets.
func ack() api.Chunk { return api.Chunk{Kind: api.ShutdownAck} }

// acks are n of them.
func acks(n int) []api.Chunk { return slices.Repeat([]api.Chunk{ack()}, n) }

// taking is a chunk that takes n octets, a multiple of 4.
func taking(n int) api.Chunk { return api.Chunk{Kind: 99, Data: value(n - 4)} }

// notShaped are chunks that are not, each for another reason.
func notShaped() []api.Chunk {
	return []api.Chunk{
		{Kind: api.Data}, {Kind: api.ShutdownAck, A: 1}, {Kind: api.Init, Data: []byte{1}}, {Kind: api.Sack, Blocks: make([]api.Block, 65)},
		{Kind: api.Forward, Skips: make([]api.Skip, 65)}, {Kind: 99, Data: make([]byte, 1201)}, {Kind: api.Abort, Params: make([]api.Param, 33)},
		{Kind: api.ShutdownDone, Ppid: 1}, {Kind: api.InitAck, Params: []api.Param{{V: make([]byte, 1201)}}},
	}
}

// inPlace is a list in which chunks are put in at a place.
func inPlace(l []api.Chunk, at int, c ...api.Chunk) []api.Chunk {
	return slices.Insert(slices.Clone(l), at, c...)
}

// drawnChunk is a chunk of a kind that is drawn, now and then one that may not be.
func drawnChunk(draw *rand.Rand) api.Chunk {
	kind := kinds[draw.Intn(len(kinds))]
	switch draw.Intn(40) {
	case 0:
		l := notShaped()
		return l[draw.Intn(len(l))]
	case 1:
		return greatest(kind)
	case 2, 3, 4:
		return taking(4 + 4*draw.Intn(297))
	case 5, 6:
		return ordinary(kind)
	}
	if slices.Contains(aloneKinds, kind) {
		return ack()
	}
	return ordinary(kind)
}

// drawnChunks are up to most of them.
func drawnChunks(draw *rand.Rand, most int) []api.Chunk {
	var l []api.Chunk
	for range draw.Intn(most + 1) {
		l = append(l, drawnChunk(draw))
	}
	return l
}
