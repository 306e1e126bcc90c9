package chunk_test

import (
	"bytes"
	"math/rand"
	"reflect"
	"slices"
	"strings"
	"testing"

	"bollard/api"
	"bollard/chunk"
	"bollard/tlv"
)

// layout is the chapter's fields of a kind: A, B, o (Out), i (In), P (Ppid), r (how many Blocks and Dups, and these), s (Skips), p (Params), d (Data).
func layout(kind uint8) string {
	words := map[uint8]string{
		0: "AoiPd", 1: "ABoiPp", 2: "ABoiPp", 3: "ABr", 4: "p", 5: "p", 6: "p", 7: "A", 8: "", 9: "p",
		10: "d", 11: "", 14: "", 130: "p", 192: "As",
	}
	if l, ok := words[kind]; ok {
		return l
	}
	return "d"
}

// isSet tells which of the chapter's fields are set.
func isSet(c api.Chunk) map[rune]bool {
	return map[rune]bool{
		'A': c.A != 0, 'B': c.B != 0, 'o': c.Out != 0, 'i': c.In != 0, 'P': c.Ppid != 0,
		'r': len(c.Blocks)+len(c.Dups) > 0, 's': len(c.Skips) > 0, 'p': len(c.Params) > 0, 'd': len(c.Data) > 0,
	}
}

// wordOfShaped says when a chunk is shaped.
func wordOfShaped(c api.Chunk) bool {
	for f, set := range isSet(c) {
		if set && !strings.ContainsRune(layout(c.Kind), f) {
			return false
		}
	}
	if c.Kind == 0 && len(c.Data) == 0 {
		return false
	}
	_, err := tlv.Encode(c.Params)
	return len(c.Blocks) <= 64 && len(c.Dups) <= 64 && len(c.Skips) <= 64 && len(c.Data) <= 1200 && err == api.OK
}

// half and word are numbers as octets.
func half(v uint16) []byte { return []byte{byte(v >> 8), byte(v)} }

func word(v uint32) []byte { return append(half(uint16(v>>16)), half(uint16(v))...) }

// wordOfEncode says P7.1 octet for octet.
func wordOfEncode(c api.Chunk) ([]byte, api.Errno) {
	if !wordOfShaped(c) {
		return nil, api.ErrArg
	}
	var body []byte
	for _, f := range layout(c.Kind) {
		body = append(body, fieldOctets(c, f)...)
	}
	return rough(c.Kind, c.Flags, 4+len(body), append(body, make([]byte, (4-len(body)%4)%4)...)...), api.OK
}

func fieldOctets(c api.Chunk, f rune) []byte {
	switch f {
	case 'A':
		return word(c.A)
	case 'B':
		return word(c.B)
	case 'o':
		return half(c.Out)
	case 'i':
		return half(c.In)
	case 'P':
		return word(c.Ppid)
	case 'r':
		b := append(half(uint16(len(c.Blocks))), half(uint16(len(c.Dups)))...)
		for _, x := range c.Blocks {
			b = append(append(b, half(x.From)...), half(x.To)...)
		}
		for _, d := range c.Dups {
			b = append(b, word(d)...)
		}
		return b
	case 's':
		var b []byte
		for _, s := range c.Skips {
			b = append(append(b, half(s.Stream)...), half(s.Ssn)...)
		}
		return b
	case 'p':
		b, _ := tlv.Encode(c.Params)
		return b
	}
	return c.Data
}

// rough is a chunk as octets, whatever its length says, and whatever stands behind it.
func rough(kind, flags uint8, length int, behind ...byte) []byte {
	return append([]byte{kind, flags, byte(length >> 8), byte(length)}, behind...)
}

// wordOfDecode says P7.2 by places in b.
func wordOfDecode(b []byte) (api.Chunk, int, api.Errno) {
	if len(b) < 4 {
		return api.Chunk{}, 0, api.ErrShort
	}
	length := int(b[2])*256 + int(b[3])
	if length < 4 {
		return api.Chunk{}, 0, api.ErrForm
	}
	if length > len(b) {
		return api.Chunk{}, 0, api.ErrShort
	}
	c, err := wordOfFields(b[0], b[4:length])
	if err != api.OK {
		return api.Chunk{}, 0, err
	}
	whole := (length + 3) / 4 * 4
	if whole > len(b) {
		return api.Chunk{}, 0, api.ErrShort
	}
	for _, x := range b[length:whole] {
		if x != 0 {
			return api.Chunk{}, 0, api.ErrForm
		}
	}
	c.Flags = b[1]
	return c, whole, api.OK
}

// number is octets as a number.
func number(b []byte) uint32 {
	v := uint32(0)
	for _, x := range b {
		v = v*256 + uint32(x)
	}
	return v
}

// wordOfFields is what a kind's octets say, field by field.
func wordOfFields(kind uint8, b []byte) (api.Chunk, api.Errno) {
	c := api.Chunk{Kind: kind}
	for _, f := range layout(kind) {
		if size := map[rune]int{'A': 4, 'B': 4, 'o': 2, 'i': 2, 'P': 4}[f]; size > 0 {
			if len(b) < size {
				return c, api.ErrShort
			}
			setNumber(&c, f, number(b[:size]))
			b = b[size:]
			continue
		}
		left, err := wordOfList(&c, f, b)
		if err != api.OK {
			return c, err
		}
		b = left
	}
	if len(b) > 0 {
		return c, api.ErrForm
	}
	return c, api.OK
}

func setNumber(c *api.Chunk, f rune, v uint32) {
	switch f {
	case 'A':
		c.A = v
	case 'B':
		c.B = v
	case 'o':
		c.Out = uint16(v)
	case 'i':
		c.In = uint16(v)
	case 'P':
		c.Ppid = v
	}
}

// wordOfList reads what is no single number, and tells what is left behind it.
func wordOfList(c *api.Chunk, f rune, b []byte) ([]byte, api.Errno) {
	var err api.Errno
	switch f {
	case 'r':
		if len(b) < 4 {
			return nil, api.ErrShort
		}
		blocks, dups := int(number(b[:2])), int(number(b[2:4]))
		if blocks > 64 || dups > 64 {
			return nil, api.ErrLarge
		}
		b = b[4:]
		if len(b) < 4*blocks+4*dups {
			return nil, api.ErrShort
		}
		for i := range blocks {
			c.Blocks = append(c.Blocks, api.Block{From: uint16(number(b[4*i : 4*i+2])), To: uint16(number(b[4*i+2 : 4*i+4]))})
		}
		for i := blocks; i < blocks+dups; i++ {
			c.Dups = append(c.Dups, number(b[4*i:4*i+4]))
		}
		return b[4*(blocks+dups):], api.OK
	case 's':
		// The 65th one that is whole comes ahead of a part behind it.
		if len(b)/4 > 64 {
			return nil, api.ErrLarge
		}
		if len(b)%4 != 0 {
			return nil, api.ErrForm
		}
		for i := 0; i < len(b); i += 4 {
			c.Skips = append(c.Skips, api.Skip{Stream: uint16(number(b[i : i+2])), Ssn: uint16(number(b[i+2 : i+4]))})
		}
		return nil, api.OK
	case 'p':
		c.Params, err = tlv.Decode(b)
		return nil, err
	}
	if len(b) > 1200 {
		return nil, api.ErrLarge
	}
	if len(b) == 0 && c.Kind == 0 {
		return nil, api.ErrForm
	}
	c.Data = b
	return nil, api.OK
}

// plain is a chunk whose lists without elements are all nil.
func plain(c api.Chunk) api.Chunk {
	c = copied(c)
	c.Blocks, c.Dups, c.Skips = bare(c.Blocks), bare(c.Dups), bare(c.Skips)
	c.Params, c.Data = bare(c.Params), bare(c.Data)
	for i := range c.Params {
		c.Params[i].V = bare(c.Params[i].V)
	}
	return c
}

func bare[E any](l []E) []E {
	if len(l) == 0 {
		return nil
	}
	return l
}

// alike tells that every field of two chunks is the same.
func alike(a, b api.Chunk) bool { return reflect.DeepEqual(plain(a), plain(b)) }

// copied is a chunk in memory of its own.
func copied(c api.Chunk) api.Chunk {
	c.Blocks, c.Dups, c.Skips = slices.Clone(c.Blocks), slices.Clone(c.Dups), slices.Clone(c.Skips)
	c.Params, c.Data = slices.Clone(c.Params), bytes.Clone(c.Data)
	for i := range c.Params {
		c.Params[i].V = bytes.Clone(c.Params[i].V)
	}
	return c
}

// checkEncode asks whether a chunk is shaped and what it is as octets; beside an error there are none, and what is handed in stays.
func checkEncode(t *testing.T, what string, c api.Chunk, want []byte, wantErr api.Errno) {
	t.Helper()
	before := copied(c)
	if got := chunk.Shaped(c); got != (wantErr == api.OK) {
		t.Errorf("%s: Shaped of kind %d is %v", what, c.Kind, got)
	}
	got, err := chunk.Encode(c)
	if err != wantErr || !bytes.Equal(got, want) {
		t.Errorf("%s: Encode of kind %d is %v (%v), want %v (%v)", what, c.Kind, got, err, want, wantErr)
	}
	if err != api.OK && got != nil {
		t.Errorf("%s: Encode of kind %d is %v beside an error", what, c.Kind, got)
	}
	if !reflect.DeepEqual(c, before) {
		t.Errorf("%s: what was handed in is changed", what)
	}
}

// checkWord asks that a chunk is shaped and written as the chapter's words have it.
func checkWord(t *testing.T, what string, c api.Chunk) {
	t.Helper()
	want, err := wordOfEncode(c)
	checkEncode(t, what, c, want, err)
}

// checkNone asks that a chunk is not shaped and has no octets.
func checkNone(t *testing.T, what string, c api.Chunk) {
	t.Helper()
	checkEncode(t, what, c, nil, api.ErrArg)
}

// checkDecode asks what octets are as a chunk; beside an error there is none, and what is handed in stays.
func checkDecode(t *testing.T, what string, b []byte, want api.Chunk, wantN int, wantErr api.Errno) {
	t.Helper()
	before := bytes.Clone(b)
	got, n, err := chunk.Decode(b)
	if err != wantErr || n != wantN || !alike(got, want) {
		t.Errorf("%s: Decode of %d octets, %v.., is %v, %d (%v), want %v, %d (%v)", what, len(b), b[:min(len(b), 24)], got, n, err, want, wantN, wantErr)
	}
	if err != api.OK && (n != 0 || !reflect.DeepEqual(got, api.Chunk{})) {
		t.Errorf("%s: Decode is %v, %d beside an error", what, got, n)
	}
	if !bytes.Equal(b, before) {
		t.Errorf("%s: what was handed in is changed", what)
	}
}

// checkError asks that octets are no chunk, for a reason.
func checkError(t *testing.T, what string, b []byte, want api.Errno) {
	t.Helper()
	checkDecode(t, what, b, api.Chunk{}, 0, want)
}

// checkRead asks that octets are read as the chapter's words have it, and answers the error.
func checkRead(t *testing.T, what string, b []byte) api.Errno {
	t.Helper()
	c, n, err := wordOfDecode(b)
	checkDecode(t, what, b, c, n, err)
	return err
}

// known are the kinds that the chapter names, strange ones some that nobody knows, lowest and highest among them.
var (
	known   = []uint8{0, 1, 2, 3, 4, 5, 6, 7, 8, 9, 10, 11, 14, 130, 192}
	strange = []uint8{12, 13, 15, 16, 63, 64, 127, 128, 129, 131, 191, 193, 254, 255}
)

// kinds are all of both.
func kinds() []uint8 { return slices.Concat(known, strange) }

// value are n octets, none of them 0, so that none is like those that fill up.
func value(n int) []byte {
	v := make([]byte, n)
	for i := range v {
		v[i] = byte(i%255 + 1)
	}
	return v
}

func blocks(n int) []api.Block {
	l := make([]api.Block, n)
	for i := range l {
		l[i] = api.Block{From: uint16(i*513 + 2), To: uint16(65535 - i)}
	}
	return l
}

func dups(n int) []uint32 {
	l := make([]uint32, n)
	for i := range l {
		l[i] = uint32(i*16909060 + 7)
	}
	return l
}

func skips(n int) []api.Skip {
	l := make([]api.Skip, n)
	for i := range l {
		l[i] = api.Skip{Stream: uint16(i*257 + 1), Ssn: uint16(65535 - i*3)}
	}
	return l
}

func params(n int) []api.Param {
	l := make([]api.Param, n)
	for i := range l {
		l[i] = api.Param{Kind: uint16(i*2049 + 1), V: value(i % 6)}
	}
	return l
}

// least is a chunk of a kind, each of whose fields is 0 or empty, as far as it may be.
func least(kind uint8) api.Chunk {
	c := api.Chunk{Kind: kind}
	if kind == 0 {
		c.Data = []byte{0}
	}
	return c
}

// keep is a chunk with only those fields that its kind has.
func keep(c api.Chunk) api.Chunk {
	own := api.Chunk{Kind: c.Kind, Flags: c.Flags}
	for _, f := range layout(c.Kind) {
		switch f {
		case 'r':
			own.Blocks, own.Dups = c.Blocks, c.Dups
		case 's':
			own.Skips = c.Skips
		case 'p':
			own.Params = c.Params
		case 'd':
			own.Data = c.Data
		case 'o':
			own.Out = c.Out
		case 'i':
			own.In = c.In
		default:
			setNumber(&own, f, map[rune]uint32{'A': c.A, 'B': c.B, 'P': c.Ppid}[f])
		}
	}
	return own
}

// ordinary is a chunk of a kind, whose fields' octets all differ.
func ordinary(kind uint8) api.Chunk {
	return keep(api.Chunk{
		Kind: kind, Flags: 3, A: 0x11121314, B: 0x21222324, Out: 0x3132, In: 0x4142, Ppid: 0x51525354,
		Blocks: []api.Block{{From: 0x6162, To: 0x6364}, {From: 0x6566, To: 0x6768}}, Dups: []uint32{0x71727374, 0x75767778, 0x797a7b7c},
		Skips:  []api.Skip{{Stream: 0x8182, Ssn: 0x8384}, {Stream: 0x8586, Ssn: 0x8788}},
		Params: []api.Param{{Kind: 0x9192, V: []byte{0x93}}, {Kind: 0x9495}}, Data: []byte{0xa1, 0xa2, 0xa3, 0xa4, 0xa5},
	})
}

// greatest is a chunk of a kind, each of whose fields is the greatest number, or as long as may be.
func greatest(kind uint8) api.Chunk {
	return keep(api.Chunk{
		Kind: kind, Flags: 255, A: 1<<32 - 1, B: 1<<32 - 1, Out: 65535, In: 65535, Ppid: 1<<32 - 1,
		Blocks: slices.Repeat([]api.Block{{From: 65535, To: 65535}}, 64), Dups: slices.Repeat([]uint32{1<<32 - 1}, 64),
		Skips:  slices.Repeat([]api.Skip{{Stream: 65535, Ssn: 65535}}, 64),
		Params: slices.Repeat([]api.Param{{Kind: 65535, V: bytes.Repeat([]byte{255}, 1200)}}, 32), Data: bytes.Repeat([]byte{255}, 1200),
	})
}

// single is a field set alone, to the least that is set, or to more.
type single struct {
	name string
	set  func(*api.Chunk)
}

// singles are all fields, each set alone in several ways; a list of one element all of which is 0 is set too.
func singles() []single {
	return []single{
		{"A 1", func(c *api.Chunk) { c.A = 1 }},
		{"A at its highest bit", func(c *api.Chunk) { c.A = 1 << 31 }},
		{"B 1", func(c *api.Chunk) { c.B = 1 }},
		{"B at its highest bit", func(c *api.Chunk) { c.B = 1 << 31 }},
		{"Out 1", func(c *api.Chunk) { c.Out = 1 }},
		{"Out at its highest bit", func(c *api.Chunk) { c.Out = 1 << 15 }},
		{"In 1", func(c *api.Chunk) { c.In = 1 }},
		{"In at its highest bit", func(c *api.Chunk) { c.In = 1 << 15 }},
		{"Ppid 1", func(c *api.Chunk) { c.Ppid = 1 }},
		{"Ppid at its highest bit", func(c *api.Chunk) { c.Ppid = 1 << 31 }},
		{"a Block of 0", func(c *api.Chunk) { c.Blocks = make([]api.Block, 1) }},
		{"64 Blocks", func(c *api.Chunk) { c.Blocks = blocks(64) }},
		{"a Dup of 0", func(c *api.Chunk) { c.Dups = make([]uint32, 1) }},
		{"64 Dups", func(c *api.Chunk) { c.Dups = dups(64) }},
		{"a Skip of 0", func(c *api.Chunk) { c.Skips = make([]api.Skip, 1) }},
		{"64 Skips", func(c *api.Chunk) { c.Skips = skips(64) }},
		{"a Param of 0", func(c *api.Chunk) { c.Params = make([]api.Param, 1) }},
		{"32 Params", func(c *api.Chunk) { c.Params = params(32) }},
		{"an octet 0 of Data", func(c *api.Chunk) { c.Data = []byte{0} }},
		{"1200 octets of Data", func(c *api.Chunk) { c.Data = value(1200) }},
	}
}

// drawnKind is mostly one that the chapter names.
func drawnKind(draw *rand.Rand) uint8 {
	if draw.Intn(5) == 0 {
		return uint8(draw.Intn(256))
	}
	return known[draw.Intn(len(known))]
}

// drawnChunk is a chunk with the fields of its kind, now and then with another field, or with too much of one.
func drawnChunk(draw *rand.Rand) api.Chunk {
	few := func(most int) int {
		if draw.Intn(8) == 0 {
			return most - 1 + draw.Intn(3)
		}
		return draw.Intn(5)
	}
	c := api.Chunk{
		Kind: drawnKind(draw), Flags: uint8(draw.Intn(256)), A: draw.Uint32(), B: draw.Uint32(), Out: uint16(draw.Uint32()), In: uint16(draw.Uint32()),
		Ppid: draw.Uint32(), Blocks: blocks(few(64)), Dups: dups(few(64)), Skips: skips(few(64)), Params: params(few(32)), Data: make([]byte, few(1200)),
	}
	draw.Read(c.Data)
	c = keep(c)
	if draw.Intn(6) == 0 {
		l := singles()
		l[draw.Intn(len(l))].set(&c)
	}
	return c
}
