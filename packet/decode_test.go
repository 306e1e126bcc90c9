package packet_test

import (
	"bytes"
	"math/rand"
	"slices"
	"testing"

	"bollard/api"
	"bollard/chunk"
	"bollard/crc"
)

// P8.2: a table has 256 numbers; octets fit with the one that they were written with.
func TestDecodeTables(t *testing.T) {
	for i, table := range tables() {
		for k, other := range tables() {
			for _, x := range writtenOut {
				want := api.OK
				if i != k {
					want = api.ErrSum
				}
				checkRead(t, "a table", other, sealed(table, x.b), want)
			}
		}
	}
	for _, table := range badTables() {
		for _, x := range writtenOut {
			checkError(t, "no table", table, x.b, api.ErrArg)
		}
	}
}

// P8.2: with a table of zeros the checksum is always the same, so that other octets may be turned.
func TestDecodeTableOfZeros(t *testing.T) {
	table := make([]uint32, 256)
	b := []byte{0, 0, 0, 0, 0, 0, 0, 0, 255, 255, 255, 255, 8, 0, 0, 4}
	checkDecode(t, "a table of zeros", table, b, api.Packet{Chunks: acks(1)}, api.OK)
	b[0], b[3], b[7], b[13] = 1, 2, 3, 4
	checkDecode(t, "a table of zeros", table, b, api.Packet{From: 256, To: 2, Tag: 3, Chunks: []api.Chunk{{Kind: 8, Flags: 4}}}, api.OK)
	b[11] = 254
	checkError(t, "a table of zeros", table, b, api.ErrSum)
}

// P8.2: 0 to 16 octets, with and without a checksum that fits.
func TestDecodeShort(t *testing.T) {
	table := crc.Table()
	whole := seal(8, 0, 0, 4)
	for n := range 16 {
		checkRead(t, "cut off", table, whole[:n:n], api.ErrShort)
		checkRead(t, "cut off, with memory behind it", table, whole[:n], api.ErrShort)
		checkRead(t, "zeros", table, make([]byte, n), api.ErrShort)
		if n >= 12 {
			checkRead(t, "too short under its checksum", table, sealed(table, whole[:n]), api.ErrShort)
		}
	}
	checkRead(t, "nil", table, nil, api.ErrShort)
	checkDecode(t, "16 octets", table, whole, api.Packet{From: 258, To: 772, Tag: 84281096, Chunks: acks(1)}, api.OK)
	checkRead(t, "16 octets 0", table, make([]byte, 16), api.ErrSum)
	checkRead(t, "16 octets without their checksum", table, append(make([]byte, 12), 8, 0, 0, 4), api.ErrSum)
}

// P8.2: 1200 octets may be, not one more.
func TestDecodeLong(t *testing.T) {
	table := crc.Table()
	b := seal(octetsOf([]api.Chunk{taking(1188)})...)
	if len(b) != 1200 {
		t.Fatal(len(b))
	}
	checkRead(t, "1200 octets", table, b, api.OK)
	checkRead(t, "1200 octets of four chunks", table, seal(octetsOf([]api.Chunk{taking(8), taking(500), ordinary(3), taking(1188 - 544)})...), api.OK)
	for _, n := range []int{1, 2, 3, 4, 1000, 100000} {
		checkRead(t, "more, under the checksum", table, sealed(table, append(slices.Clone(b), make([]byte, n)...)), api.ErrLarge)
		checkRead(t, "more, under no checksum", table, append(slices.Clone(b), make([]byte, n)...), api.ErrLarge)
	}
	checkRead(t, "1204 octets of two chunks", table, seal(octetsOf([]api.Chunk{taking(1188), ack()})...), api.ErrLarge)
	checkRead(t, "1201 octets 0", table, make([]byte, 1201), api.ErrLarge)
	checkRead(t, "1200 octets 0", table, make([]byte, 1200), api.ErrSum)
}

// P8.2: one bit of the checksum turned, and one octet turned at each place.
func TestDecodeTurned(t *testing.T) {
	table := crc.Table()
	for _, l := range [][]api.Chunk{acks(1), {ordinary(api.Init)}, acks(64), {ordinary(0), ordinary(3), ordinary(192)}, {taking(1188)}} {
		b := seal(octetsOf(l)...)
		for bit := range 32 {
			turned := slices.Clone(b)
			turned[8+bit/8] ^= 1 << (bit % 8)
			checkError(t, "a bit of the checksum turned", table, turned, api.ErrSum)
		}
		for place := range b {
			for _, mask := range []byte{1, 2, 16, 128, 255} {
				turned := slices.Clone(b)
				turned[place] ^= mask
				checkError(t, "an octet turned", table, turned, api.ErrSum)
			}
		}
		checkRead(t, "nothing turned", table, b, api.OK)
	}
}

// badChunk is octets of which chunk.Decode makes no chunk.
type badChunk struct {
	name string
	b    []byte
	want api.Errno
}

// badChunks are some for each of chunk.Decode's errors; where they are too short they would have to be the last ones.
func badChunks() []badChunk {
	forward := append([]byte{192, 0, 1, 12}, make([]byte, 264)...)
	params := append([]byte{6, 0, 0, 136}, bytes.Repeat([]byte{0, 1, 0, 4}, 33)...)
	return []badChunk{
		{"a head cut off", []byte{8}, api.ErrShort},
		{"a head cut off", []byte{8, 0}, api.ErrShort},
		{"a head cut off", []byte{8, 0, 0}, api.ErrShort},
		{"fields cut off", []byte{7, 0, 0, 8, 0, 0, 0}, api.ErrShort},
		{"all fields cut off", []byte{7, 0, 0, 8}, api.ErrShort},
		{"what fills up cut off", []byte{10, 0, 0, 5, 1, 0, 0}, api.ErrShort},
		{"all that fills up cut off", []byte{10, 0, 0, 5, 1}, api.ErrShort},
		{"a length that ends ahead of a field", []byte{7, 0, 0, 6, 1, 2, 0, 0}, api.ErrShort},
		{"a parameter cut off", []byte{6, 0, 0, 6, 0, 1, 0, 0}, api.ErrShort},
		{"a length of 0", []byte{8, 0, 0, 0}, api.ErrForm},
		{"a length of 1", []byte{8, 0, 0, 1}, api.ErrForm},
		{"a length of 3", []byte{99, 0, 0, 3, 0, 0, 0, 0}, api.ErrForm},
		{"only zeros", []byte{0, 0, 0, 0}, api.ErrForm},
		{"filled up by what is not 0", []byte{10, 0, 0, 5, 1, 0, 0, 1}, api.ErrForm},
		{"filled up by what is not 0", []byte{10, 0, 0, 7, 1, 2, 3, 255}, api.ErrForm},
		{"octets left", []byte{8, 0, 0, 5, 0, 0, 0, 0}, api.ErrForm},
		{"an empty Data's", append([]byte{0, 0, 0, 16}, make([]byte, 12)...), api.ErrForm},
		{"a part of a Skip", []byte{192, 0, 0, 10, 0, 0, 0, 1, 0, 1, 0, 0}, api.ErrForm},
		{"65 Blocks", append([]byte{3, 0, 0, 16}, 0, 0, 0, 1, 0, 0, 0, 2, 0, 65, 0, 0), api.ErrLarge},
		{"65 Dups", append([]byte{3, 0, 0, 16}, 0, 0, 0, 1, 0, 0, 0, 2, 0, 0, 0, 65), api.ErrLarge},
		{"65 Skips", forward, api.ErrLarge},
		{"33 Params", params, api.ErrLarge},
		{"a Param too long", []byte{6, 0, 0, 8, 0, 1, 4, 181}, api.ErrLarge},
	}
}

// P8.2: octets that are the checksum's own, but no chunk: chunk.Decode's error, wherever they stand.
func TestDecodeBadChunks(t *testing.T) {
	table := crc.Table()
	for _, x := range badChunks() {
		if _, _, err := chunk.Decode(x.b); err != x.want {
			t.Errorf("%s: chunk.Decode tells %v, want %v", x.name, err, x.want)
		}
		for _, n := range []int{1, 2, 63} {
			checkRead(t, x.name+", behind others", table, seal(append(octetsOf(acks(n)), x.b...)...), x.want)
		}
		if len(x.b) >= 4 {
			checkRead(t, x.name, table, seal(x.b...), x.want)
		}
		if x.want != api.ErrShort {
			checkRead(t, x.name+", ahead of another", table, seal(append(slices.Clone(x.b), octetsOf([]api.Chunk{ordinary(7)})...)...), x.want)
			checkRead(t, x.name+", ahead of 65", table, seal(append(slices.Clone(x.b), octetsOf(acks(65))...)...), x.want)
		}
	}
	for _, kind := range kinds {
		b := octetsOf([]api.Chunk{ordinary(kind), ordinary(kind)})
		for n := 4; n < len(b)/2; n++ {
			checkRead(t, "cut off", table, seal(b[:n]...), api.ErrShort)
			if !slices.Contains(aloneKinds, kind) {
				checkRead(t, "the second one cut off", table, seal(b[:len(b)/2+n]...), api.ErrShort)
			}
		}
	}
}

// P8.2: 64 chunks may be; behind them nothing is read, be it one or none.
func TestDecodeHowMany(t *testing.T) {
	table := crc.Table()
	for n := 1; n < 70; n++ {
		want := api.OK
		if n > 64 {
			want = api.ErrLarge
		}
		checkRead(t, "a number of chunks", table, seal(octetsOf(acks(n))...), want)
	}
	many := octetsOf(acks(64))
	for _, x := range badChunks() {
		checkRead(t, x.name+" behind 64", table, seal(append(slices.Clone(many), x.b...)...), api.ErrLarge)
		checkRead(t, x.name+" behind 63", table, seal(append(slices.Clone(many[4:]), x.b...)...), x.want)
	}
	for n := 1; n < 4; n++ {
		checkRead(t, "a few octets behind 64", table, seal(append(slices.Clone(many), make([]byte, n)...)...), api.ErrLarge)
	}
	for _, kind := range aloneKinds {
		checkRead(t, "one that stands alone behind 64", table, seal(append(slices.Clone(many), octetsOf([]api.Chunk{{Kind: kind}})...)...), api.ErrLarge)
	}
	checkRead(t, "as many as have room", table, seal(octetsOf(acks(297))...), api.ErrLarge)
}

// P8.2: one that stands alone, by itself and beside others.
func TestDecodeAlone(t *testing.T) {
	table := crc.Table()
	for _, kind := range aloneKinds {
		c := ordinary(kind)
		checkRead(t, "by itself", table, seal(octetsOf([]api.Chunk{c})...), api.OK)
		for _, other := range kinds {
			checkRead(t, "ahead of another", table, seal(octetsOf([]api.Chunk{c, ordinary(other)})...), api.ErrForm)
			checkRead(t, "behind another", table, seal(octetsOf([]api.Chunk{ordinary(other), c})...), api.ErrForm)
		}
		checkRead(t, "between others", table, seal(octetsOf([]api.Chunk{ack(), c, ack()})...), api.ErrForm)
		checkRead(t, "twice", table, seal(octetsOf([]api.Chunk{c, c})...), api.ErrForm)
		for _, at := range []int{0, 31, 63} {
			checkRead(t, "beside 63", table, seal(octetsOf(inPlace(acks(63), at, c))...), api.ErrForm)
		}
	}
	for _, kind := range kinds {
		if !slices.Contains(aloneKinds, kind) {
			checkRead(t, "others beside others", table, seal(octetsOf([]api.Chunk{ordinary(kind), ack(), ordinary(kind)})...), api.OK)
		}
	}
}

// P8.2: which error is told where several apply.
func TestDecodeWhichError(t *testing.T) {
	table := crc.Table()
	long, done := value(1201), octetsOf([]api.Chunk{{Kind: api.ShutdownDone}})
	for _, bad := range badTables() {
		for _, b := range [][]byte{nil, value(15), value(16), long, seal(8, 0, 0, 3), seal(octetsOf(acks(65))...), seal(8, 0, 0, 4, 14, 0, 0, 4)} {
			checkError(t, "no table, ahead of all", bad, b, api.ErrArg)
		}
	}
	checkError(t, "too long, ahead of the checksum", table, long, api.ErrLarge)
	checkError(t, "too long, ahead of a chunk's", table, seal(value(1189)...), api.ErrLarge)
	checkError(t, "too short, ahead of the checksum", table, value(15), api.ErrShort)
	checkError(t, "too short, ahead of a chunk's", table, seal(8, 0, 0), api.ErrShort)
	for _, behind := range [][]byte{{8, 0, 0, 3}, {7, 0, 0, 8}, octetsOf(acks(65)), append(octetsOf(acks(1)), done...)} {
		b := seal(behind...)
		b[9] ^= 4
		checkError(t, "the checksum, ahead of what stands behind it", table, b, api.ErrSum)
	}
	for _, x := range badChunks() {
		checkError(t, "a chunk's, ahead of one that stands alone", table, seal(slices.Concat(done, octetsOf(acks(1)), x.b)...), x.want)
		checkError(t, "too many, ahead of a chunk's", table, seal(slices.Concat(octetsOf(acks(64)), x.b)...), api.ErrLarge)
		if x.want != api.ErrShort {
			checkError(t, "a chunk's, ahead of too many", table, seal(slices.Concat(octetsOf(acks(63)), x.b, octetsOf(acks(9)))...), x.want)
		}
	}
	for _, at := range []int{0, 10, 63, 64} {
		checkError(t, "too many, ahead of one that stands alone", table, seal(octetsOf(inPlace(acks(64), at, api.Chunk{Kind: api.ShutdownDone}))...), api.ErrLarge)
	}
}

// P8.2: rows drawn from a fixed seed are as the chapter's words have them.
func TestDecodeRows(t *testing.T) {
	draw := rand.New(rand.NewSource(82))
	all := tables()
	told := map[api.Errno]int{}
	for range 20000 {
		behind := octetsOf(drawnChunks(draw, 5))
		if draw.Intn(10) == 0 {
			behind = append(behind, octetsOf(acks(draw.Intn(70)))...)
		}
		for range draw.Intn(3) {
			if len(behind) > 0 {
				behind[draw.Intn(min(len(behind), 40))] = []byte{0, 1, 3, 4, 5, 8, 14, 65}[draw.Intn(8)]
			}
		}
		if draw.Intn(4) == 0 {
			behind = behind[:draw.Intn(len(behind)+1)]
		}
		table := all[draw.Intn(len(all))]
		b := sealed(table, append(value(12), behind...))
		if draw.Intn(8) == 0 {
			b[draw.Intn(len(b))] ^= 1 << draw.Intn(8)
		}
		want, err := wordOfDecode(table, b)
		checkDecode(t, "a row", table, b, want, err)
		told[err]++
	}
	for _, err := range []api.Errno{api.OK, api.ErrShort, api.ErrForm, api.ErrSum, api.ErrLarge} {
		if told[err] < 200 {
			t.Errorf("the rows tell %v only %d times", err, told[err])
		}
	}
}
