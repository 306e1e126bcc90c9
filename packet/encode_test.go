package packet_test

import (
	"math/rand"
	"slices"
	"testing"

	"bollard/api"
	"bollard/crc"
	"bollard/packet"
)

// writtenOut are packets and their octets, written out.
var writtenOut = []struct {
	p api.Packet
	b []byte
}{
	{api.Packet{Chunks: []api.Chunk{{Kind: 8}}}, []byte{0, 0, 0, 0, 0, 0, 0, 0, 19, 110, 174, 115, 8, 0, 0, 4}},
	{api.Packet{From: 258, To: 772, Tag: 84281096, Chunks: []api.Chunk{{Kind: 8}}}, []byte{1, 2, 3, 4, 5, 6, 7, 8, 218, 213, 80, 59, 8, 0, 0, 4}},
	{api.Packet{From: 65535, To: 65535, Tag: 1<<32 - 1, Chunks: []api.Chunk{{Kind: 8}}}, []byte{255, 255, 255, 255, 255, 255, 255, 255, 164, 65, 190, 26, 8, 0, 0, 4}},
	{api.Packet{From: 258, To: 772, Tag: 84281096, Chunks: []api.Chunk{{Kind: 14, Flags: 1}}}, []byte{1, 2, 3, 4, 5, 6, 7, 8, 214, 85, 84, 90, 14, 1, 0, 4}},
	{
		api.Packet{From: 258, To: 772, Tag: 84281096, Chunks: []api.Chunk{{Flags: 3, A: 5, Out: 1, In: 2, Ppid: 3, Data: []byte{9}}}},
		[]byte{1, 2, 3, 4, 5, 6, 7, 8, 93, 44, 1, 106, 0, 3, 0, 17, 0, 0, 0, 5, 0, 1, 0, 2, 0, 0, 0, 3, 9, 0, 0, 0},
	},
	{
		api.Packet{From: 258, To: 772, Tag: 84281096, Chunks: []api.Chunk{{Kind: 7, A: 5}, {Kind: 10, Data: []byte{255}}, {Kind: 8}}},
		[]byte{1, 2, 3, 4, 5, 6, 7, 8, 10, 9, 8, 150, 7, 0, 0, 8, 0, 0, 0, 5, 10, 0, 0, 5, 255, 0, 0, 0, 8, 0, 0, 4},
	},
}

// P8.1, P8.2: packets written out, with the checksum's lowest octet first.
func TestWrittenOut(t *testing.T) {
	for _, x := range writtenOut {
		checkEncode(t, "written out", crc.Table(), x.p, x.b, api.OK)
		checkDecode(t, "written out", crc.Table(), x.b, x.p, api.OK)
		backward := slices.Clone(x.b)
		slices.Reverse(backward[8:12])
		checkError(t, "the checksum's highest octet first", crc.Table(), backward, api.ErrSum)
	}
}

// P8.1: each of From, To, Tag stands at its place, the highest octet first.
func TestEncodeHead(t *testing.T) {
	for bit := range 32 {
		for _, p := range []api.Packet{{From: 1 << (bit % 16)}, {To: 1 << (bit % 16)}, {Tag: 1 << bit}, {From: 1 << (bit % 16), To: 3, Tag: 1 << bit}} {
			p.Chunks = acks(1)
			checkDecode(t, "a bit of the head", crc.Table(), checkWritten(t, "a bit of the head", crc.Table(), p, api.OK), p, api.OK)
		}
	}
}

// P8.1: a table has 256 numbers; which ones, is the caller's.
func TestEncodeTables(t *testing.T) {
	for _, table := range tables() {
		for _, x := range writtenOut {
			checkWritten(t, "a table", table, x.p, api.OK)
		}
		checkWritten(t, "a table", table, api.Packet{Chunks: []api.Chunk{taking(1188)}}, api.OK)
	}
	for _, table := range badTables() {
		for _, x := range writtenOut {
			checkWritten(t, "no table", table, x.p, api.ErrArg)
		}
	}
}

// P8.1: no chunks, and each number of them up to above what may be.
func TestEncodeHowMany(t *testing.T) {
	for n := range 70 {
		want := api.OK
		switch {
		case n == 0:
			want = api.ErrArg
		case n > 64:
			want = api.ErrLarge
		}
		b := checkWritten(t, "a number of chunks", crc.Table(), api.Packet{From: 1, Chunks: acks(n)}, want)
		if want == api.OK && len(b) != 12+4*n {
			t.Errorf("%d chunks have %d octets", n, len(b))
		}
	}
	checkEncode(t, "chunks that are nil", crc.Table(), api.Packet{From: 1, To: 2, Tag: 3}, nil, api.ErrArg)
	checkEncode(t, "no chunks", crc.Table(), api.Packet{Chunks: []api.Chunk{}}, nil, api.ErrArg)
	checkEncode(t, "64 and one that is alone in its group", crc.Table(), api.Packet{Chunks: acks(65)}, nil, api.ErrLarge)
}

// P8.1: each kind alone in a packet, and behind another.
func TestEncodeKinds(t *testing.T) {
	for _, kind := range kinds {
		c := ordinary(kind)
		b := checkWritten(t, "a kind", crc.Table(), api.Packet{To: 9, Chunks: []api.Chunk{c}}, api.OK)
		if len(b) != 12+packet.Size(c) {
			t.Errorf("kind %d has %d octets in its packet", kind, len(b))
		}
		want := api.OK
		if slices.Contains(aloneKinds, kind) {
			want = api.ErrArg
		}
		checkWritten(t, "a kind behind another", crc.Table(), api.Packet{To: 9, Chunks: []api.Chunk{ack(), c}}, want)
		checkWritten(t, "a kind ahead of another", crc.Table(), api.Packet{To: 9, Chunks: []api.Chunk{c, ordinary(api.Data)}}, want)
		checkWritten(t, "a kind twice", crc.Table(), api.Packet{To: 9, Chunks: []api.Chunk{c, c}}, want)
	}
}

// P8.1: a chunk that is not shaped, wherever it stands.
func TestEncodeNotShaped(t *testing.T) {
	for _, c := range notShaped() {
		checkWritten(t, "not shaped, by itself", crc.Table(), api.Packet{Chunks: []api.Chunk{c}}, api.ErrArg)
		for _, n := range []int{1, 2, 63, 64} {
			for _, at := range []int{0, n / 2, n} {
				checkWritten(t, "not shaped", crc.Table(), api.Packet{Chunks: inPlace(acks(n), at, c)}, api.ErrArg)
			}
		}
	}
}

// P8.1: one that stands alone, ahead of others, behind them, between them, twice.
func TestEncodeAlone(t *testing.T) {
	for _, kind := range aloneKinds {
		for _, c := range []api.Chunk{{Kind: kind}, ordinary(kind)} {
			checkWritten(t, "by itself", crc.Table(), api.Packet{Chunks: []api.Chunk{c}}, api.OK)
			for _, n := range []int{1, 2, 63} {
				for at := range n + 1 {
					checkWritten(t, "beside others", crc.Table(), api.Packet{Chunks: inPlace(acks(n), at, c)}, api.ErrArg)
				}
			}
			for _, other := range aloneKinds {
				checkWritten(t, "two of them", crc.Table(), api.Packet{Chunks: []api.Chunk{c, ordinary(other)}}, api.ErrArg)
			}
		}
	}
}

// P8.1: 1200 octets in all may be, not four more, whichever chunk it is that has them.
func TestEncodeHowLong(t *testing.T) {
	for _, x := range []struct {
		name string
		l    []api.Chunk
		want api.Errno
	}{
		{"just 1200, of one", []api.Chunk{taking(1188)}, api.OK},
		{"just 1200, of one that fills up", []api.Chunk{{Kind: 99, Data: value(1181)}}, api.OK},
		{"just 1200, the last one small", []api.Chunk{taking(1184), ack()}, api.OK},
		{"just 1200, the first one small", []api.Chunk{ack(), taking(1184)}, api.OK},
		{"just 1200, of three", []api.Chunk{taking(400), taking(388), taking(400)}, api.OK},
		{"just 1200, of 64", append(acks(63), taking(1188-252)), api.OK},
		{"four more, of one", []api.Chunk{taking(1192)}, api.ErrLarge},
		{"four more, as it fills up", []api.Chunk{{Kind: 99, Data: value(1185)}}, api.ErrLarge},
		{"four more, by the last one", []api.Chunk{taking(1188), ack()}, api.ErrLarge},
		{"four more, behind a small one", []api.Chunk{ack(), taking(1188)}, api.ErrLarge},
		{"four more, of three", []api.Chunk{taking(400), taking(392), taking(400)}, api.ErrLarge},
		{"four more, of 64", append(acks(63), taking(1192-252)), api.ErrLarge},
		{"very many, by the first one", []api.Chunk{greatest(api.Abort), ack()}, api.ErrLarge},
		{"very many, by the last one", []api.Chunk{ack(), greatest(api.Abort)}, api.ErrLarge},
		{"very many, of one that stands alone", []api.Chunk{greatest(api.Init)}, api.ErrLarge},
		{"1204 of data", []api.Chunk{{Kind: 99, Data: value(1200)}}, api.ErrLarge},
	} {
		b := checkWritten(t, x.name, crc.Table(), api.Packet{From: 5, Chunks: x.l}, x.want)
		if x.want == api.OK && len(b) != 1200 {
			t.Errorf("%s: %d octets", x.name, len(b))
		}
	}
}

// P8.1: which error is told where several apply.
func TestEncodeWhichError(t *testing.T) {
	table := crc.Table()
	large := [][]api.Chunk{acks(65), acks(300), {taking(1192)}, {taking(1188), ack()}, {ack(), taking(1188)}, {greatest(api.InitAck)}}
	for _, l := range large {
		checkWritten(t, "too much alone", table, api.Packet{Chunks: l}, api.ErrLarge)
		for _, bad := range badTables() {
			checkWritten(t, "no table, ahead of too much", bad, api.Packet{Chunks: l}, api.ErrArg)
		}
		for _, c := range append(notShaped(), ordinary(api.Init), ordinary(api.InitAck), ordinary(api.ShutdownDone)) {
			for _, at := range []int{0, len(l) / 2, len(l)} {
				checkWritten(t, "what may not be, ahead of too much", table, api.Packet{Chunks: inPlace(l, at, c)}, api.ErrArg)
			}
		}
	}
	checkWritten(t, "one that stands alone, and too much, behind 65", table, api.Packet{Chunks: append(acks(65), greatest(api.Init))}, api.ErrArg)
}

// P8.1: rows drawn from a fixed seed are as the chapter's words have them.
func TestEncodeRows(t *testing.T) {
	draw := rand.New(rand.NewSource(81))
	all := tables()
	told := map[api.Errno]int{}
	for range 6000 {
		p := api.Packet{From: uint16(draw.Uint32()), To: uint16(draw.Uint32()), Tag: draw.Uint32(), Chunks: drawnChunks(draw, 8)}
		if draw.Intn(20) == 0 {
			p.Chunks = append(p.Chunks, acks(draw.Intn(70))...)
		}
		table := all[draw.Intn(len(all))]
		want, err := wordOfEncode(table, p)
		checkEncode(t, "a row", table, p, want, err)
		told[err]++
	}
	for _, err := range []api.Errno{api.OK, api.ErrArg, api.ErrLarge} {
		if told[err] < 300 {
			t.Errorf("the rows tell %v only %d times", err, told[err])
		}
	}
}

// P8.1: Size of chunks of each kind, the least, the ordinary and the greatest one.
func TestSize(t *testing.T) {
	sizes := map[uint8][3]int{
		0: {0, 24, 1216}, 1: {20, 44, 38548}, 2: {20, 44, 38548}, 3: {16, 36, 528}, 4: {4, 28, 38532}, 5: {4, 28, 38532}, 6: {4, 28, 38532},
		7: {8, 8, 8}, 8: {4, 4, 4}, 9: {4, 28, 38532}, 10: {4, 12, 1204}, 11: {4, 4, 4}, 14: {4, 4, 4}, 130: {4, 28, 38532}, 192: {8, 16, 264},
	}
	for kind := range 256 {
		want, ok := sizes[uint8(kind)]
		if !ok {
			want = [3]int{4, 12, 1204}
		}
		for i, c := range []api.Chunk{{Kind: uint8(kind)}, ordinary(uint8(kind)), greatest(uint8(kind))} {
			if got := packet.Size(c); got != want[i] {
				t.Errorf("Size of kind %d is %d, want %d", kind, got, want[i])
			}
		}
	}
	for _, c := range notShaped() {
		if got := packet.Size(c); got != 0 {
			t.Errorf("Size of a chunk of kind %d that is not shaped is %d", c.Kind, got)
		}
	}
}

// P8.1: what fills up counts.
func TestSizeFillsUp(t *testing.T) {
	for n, want := range []int{4, 8, 8, 8, 8, 12, 12, 12, 12, 16} {
		if got := packet.Size(api.Chunk{Kind: api.CookieEcho, Data: make([]byte, n)}); got != want {
			t.Errorf("Size of %d octets is %d, want %d", n, got, want)
		}
		if n > 0 {
			if got := packet.Size(api.Chunk{Data: make([]byte, n)}); got != want+12 {
				t.Errorf("Size of a Data's %d octets is %d, want %d", n, got, want+12)
			}
		}
		if got := packet.Size(api.Chunk{Kind: api.Error, Params: []api.Param{{V: make([]byte, n)}}}); got != want+4 {
			t.Errorf("Size of a parameter's %d octets is %d, want %d", n, got, want+4)
		}
	}
}

// P8.1: Alone of each kind there is.
func TestAlone(t *testing.T) {
	for kind := range 256 {
		want := kind == 1 || kind == 2 || kind == 14
		if got := packet.Alone(uint8(kind)); got != want {
			t.Errorf("Alone of %d is %v", kind, got)
		}
	}
}
