package chunk_test

import (
	"bytes"
	"math/rand"
	"slices"
	"testing"

	"bollard/api"
	"bollard/chunk"
)

// behinds are what may stand behind a chunk: nothing, parts of chunks, whole ones, octets that are none.
func behinds() [][]byte {
	return [][]byte{nil, {0}, {9}, {9, 9}, {255, 255, 255}, {8, 0, 0, 4}, {8, 0, 0, 3}, {0, 0, 0, 0}, {192, 0, 0, 9, 9}, value(100), make([]byte, 100), value(70000)}
}

// P7.2: each kind written out, read, whatever stands behind it; with it the octets that it takes.
func TestDecode(t *testing.T) {
	for _, x := range writtenOut() {
		for _, behind := range behinds() {
			checkDecode(t, x.name, slices.Concat(x.b, behind), x.c, len(x.b), api.OK)
		}
	}
}

// P7.2: of every kind the least, an ordinary one and the greatest, whatever stands behind it.
func TestDecodeEachKind(t *testing.T) {
	for n := range 256 {
		for _, c := range []api.Chunk{least(uint8(n)), ordinary(uint8(n)), greatest(uint8(n))} {
			b, _ := wordOfEncode(c)
			for _, behind := range behinds()[:8] {
				checkDecode(t, "a kind", slices.Concat(b, behind), c, len(b), api.OK)
			}
		}
	}
}

// P7.2: Data of one to five octets takes those that fill up too.
func TestDecodeTakes(t *testing.T) {
	for n, takes := range []int{4, 8, 8, 8, 8, 12, 12, 12, 12, 16} {
		b := append(rough(10, 0, 4+n, value(n)...), make([]byte, (4-n%4)%4)...)
		for _, behind := range behinds() {
			checkDecode(t, "a CookieEcho", slices.Concat(b, behind), api.Chunk{Kind: 10, Data: value(n)}, takes, api.OK)
		}
		if n > 0 {
			b = append(rough(0, 0, 16+n, append(make([]byte, 12), value(n)...)...), make([]byte, (4-n%4)%4)...)
			checkDecode(t, "a Data", append(b, 7), api.Chunk{Data: value(n)}, takes+12, api.OK)
		}
	}
}

// P7.2: a chunk that is cut off at any place is too short.
func TestDecodeCutOff(t *testing.T) {
	for _, kind := range kinds() {
		for _, c := range []api.Chunk{least(kind), ordinary(kind), greatest(kind)} {
			b, _ := wordOfEncode(c)
			for n := 0; n < len(b); n += 1 + len(b)/2000 {
				checkError(t, "cut off", b[:n:n], api.ErrShort)
				checkError(t, "cut off, with memory behind it", b[:n], api.ErrShort)
			}
			checkError(t, "its last octet cut off", b[:len(b)-1], api.ErrShort)
		}
	}
	checkError(t, "nil", nil, api.ErrShort)
}

// P7.2: octets cut out of a chunk, so that what stands behind it is read as its own.
func TestDecodeCutOut(t *testing.T) {
	for _, kind := range kinds() {
		b, _ := wordOfEncode(ordinary(kind))
		for n := range len(b) {
			for _, behind := range behinds() {
				checkRead(t, "cut off, something behind it", slices.Concat(b[:n], behind))
			}
		}
	}
}

// P7.2: a length below 4 is none, whatever stands behind it; but one that is not whole ends too soon.
func TestDecodeLengthBelow(t *testing.T) {
	for kind := range 256 {
		for length := range 4 {
			for _, behind := range [][]byte{nil, {0}, {0, 0, 0, 0}, {9, 9, 9, 9}, value(2000)} {
				checkError(t, "a length below 4", rough(uint8(kind), 255, length, behind...), api.ErrForm)
			}
			for n := range 4 {
				checkError(t, "a length below 4 cut off", rough(uint8(kind), 0, length)[:n], api.ErrShort)
			}
		}
	}
}

// errorsByLength is what is told of octets 0 at each length from 4 on.
type errorsByLength struct {
	kind uint8
	told []api.Errno
}

// P7.2: a length that ends ahead of each field, in it, and behind all of them; the octets are 0, more than enough of them.
func TestDecodeEachLength(t *testing.T) {
	ok, short, form := api.OK, api.ErrShort, api.ErrForm
	four := []api.Errno{short, short, short, short}
	params := []api.Errno{ok, short, short, short, form, form, form, form, form}
	alone := []api.Errno{ok, form, form, form, form, form}
	begin := slices.Concat(four, four, four, four, params)
	data := []api.Errno{ok, ok, ok, ok, ok, ok}
	for _, x := range []errorsByLength{
		{api.Data, slices.Concat(four, four, four, []api.Errno{form}, data)},
		{api.Init, begin}, {api.InitAck, begin}, {api.Sack, slices.Concat(four, four, four, alone)},
		{api.Heartbeat, params}, {api.HeartbeatAck, params}, {api.Abort, params}, {api.Error, params}, {api.Reset, params},
		{api.Shutdown, slices.Concat(four, alone)}, {api.ShutdownAck, alone}, {api.CookieAck, alone}, {api.ShutdownDone, alone},
		{api.Forward, slices.Concat(four, []api.Errno{ok, form, form, form, ok, form, form, form, ok, form})},
		{api.CookieEcho, data}, {12, data}, {13, data}, {15, data}, {131, data}, {255, data},
	} {
		for i, want := range x.told {
			b := rough(x.kind, 0, 4+i, make([]byte, 60)...)
			if err := checkRead(t, "a length", b); err != want {
				t.Errorf("the words tell %v of kind %d at the length %d, want %v", err, x.kind, 4+i, want)
			}
			checkRead(t, "a length, and no more octets than it tells", b[:4+i])
			checkRead(t, "a length, and the octets that fill up", b[:(4+i+3)/4*4])
		}
	}
}

// P7.2: every length, ahead of octets that are not 0.
func TestDecodeLengths(t *testing.T) {
	for _, kind := range kinds() {
		for _, c := range []api.Chunk{least(kind), ordinary(kind)} {
			b, _ := wordOfEncode(c)
			for length := range len(b) + 30 {
				for _, behind := range [][]byte{nil, value(7), value(40), make([]byte, 40)} {
					x := slices.Concat(b, behind)
					x[2], x[3] = byte(length>>8), byte(length)
					checkRead(t, "a length", x)
				}
			}
		}
	}
}

// sack is a Sack as octets, whose numbers of Blocks and Dups say what they like.
func sack(blocks, dups, octets int) []byte {
	b := append(rough(3, 0, 16+octets), 0, 0, 0, 1, 0, 0, 0, 2)
	b = append(append(b, half(uint16(blocks))...), half(uint16(dups))...)
	return append(b, make([]byte, octets)...)
}

// P7.2: numbers of Blocks and Dups: just as many as there are, more, fewer, 64, 65, each alone and both.
func TestDecodeReports(t *testing.T) {
	counts := []int{0, 1, 2, 3, 63, 64, 65, 66, 128, 255, 256, 257, 32768, 65535}
	for _, blocks := range counts {
		for _, dups := range counts {
			whole := min(4*(blocks+dups), 4*130)
			for _, octets := range []int{0, 1, 4, whole - 4, whole - 3, whole - 1, whole, whole + 1, whole + 4, 600} {
				want := api.OK
				switch {
				case blocks > 64 || dups > 64:
					want = api.ErrLarge
				case octets < 4*(blocks+dups):
					want = api.ErrShort
				case octets > 4*(blocks+dups):
					want = api.ErrForm
				}
				if octets < 0 {
					continue
				}
				b := append(sack(blocks, dups, octets), make([]byte, (4-octets%4)%4)...)
				if err := checkRead(t, "a Sack", b); err != want {
					t.Errorf("the words tell %v of %d Blocks, %d Dups and %d octets, want %v", err, blocks, dups, octets, want)
				}
				checkRead(t, "a Sack, something behind it", append(b, value(300)...))
			}
		}
	}
}

// P7.2: a Sack that ends ahead of its second number is too short, though the first one is too great.
func TestDecodeReportsCutOff(t *testing.T) {
	for length := 12; length < 16; length++ {
		b := sack(65, 65, 0)
		b[3] = byte(length)
		checkError(t, "no second number", b, api.ErrShort)
		checkError(t, "no second number, something behind it", append(b, make([]byte, 600)...), api.ErrShort)
	}
	checkError(t, "both numbers", sack(65, 0, 0), api.ErrLarge)
	checkError(t, "both numbers", sack(0, 65, 0), api.ErrLarge)
	checkError(t, "both numbers", sack(65, 65, 0), api.ErrLarge)
	checkError(t, "too many Dups, too few Blocks", sack(64, 65, 8), api.ErrLarge)
}

// forward is a Forward as octets, with so many Skips and a part of one.
func forward(skips, part int) []byte {
	n := 4*skips + part
	return append(rough(192, 0, 8+n, 0, 0, 0, 9), append(value(n), make([]byte, (4-part)%4)...)...)
}

// P7.2: a part of a Skip is ErrForm, behind 64 of them too; a whole one behind 64 is ErrLarge, whatever follows.
func TestDecodeSkips(t *testing.T) {
	for n := range 70 {
		for part := range 4 {
			want := api.OK
			switch {
			case n > 64:
				want = api.ErrLarge
			case part > 0:
				want = api.ErrForm
			}
			if err := checkRead(t, "Skips", forward(n, part)); err != want {
				t.Errorf("the words tell %v of %d Skips and %d octets, want %v", err, n, part, want)
			}
			checkRead(t, "Skips, something behind them", append(forward(n, part), value(300)...))
		}
	}
	for _, n := range []int{100, 1000, 16380} {
		checkError(t, "very many Skips", forward(n, 0), api.ErrLarge)
		checkError(t, "very many Skips and a part of one", forward(n, 3), api.ErrLarge)
	}
}

// P7.2: 1200 octets of Data may be, 1201 not; a Data's may not be empty, another kind's may.
func TestDecodeData(t *testing.T) {
	for _, kind := range append([]uint8{api.CookieEcho}, strange...) {
		for _, n := range []int{0, 1, 2, 3, 4, 5, 1196, 1197, 1198, 1199, 1200} {
			b := append(rough(kind, 5, 4+n, value(n)...), make([]byte, (4-n%4)%4)...)
			checkDecode(t, "Data", b, api.Chunk{Kind: kind, Flags: 5, Data: value(n)}, len(b), api.OK)
		}
		for _, n := range []int{1201, 1202, 1203, 1204, 1205, 2400, 40000, 65528, 65531} {
			b := append(rough(kind, 5, 4+n, value(n)...), 0, 0, 0)
			checkError(t, "too much Data", b, api.ErrLarge)
		}
	}
	head := []byte{0, 0, 0, 1, 0, 2, 0, 3, 0, 0, 0, 4}
	for n := 1; n <= 1200; n++ {
		b := append(rough(0, 0, 16+n, slices.Concat(head, value(n))...), make([]byte, (4-n%4)%4)...)
		checkDecode(t, "a Data's", b, api.Chunk{A: 1, Out: 2, In: 3, Ppid: 4, Data: value(n)}, len(b), api.OK)
	}
	for _, n := range []int{1201, 1202, 1203, 1204, 40000, 65519} {
		checkError(t, "too much of a Data's", append(rough(0, 0, 16+n, slices.Concat(head, value(n))...), 0, 0, 0), api.ErrLarge)
	}
	for _, behind := range behinds() {
		checkError(t, "an empty Data's", append(rough(0, 0, 16, head...), behind...), api.ErrForm)
	}
}

// P7.2: the Params' error, whichever it is, in each kind that has Params.
func TestDecodeParams(t *testing.T) {
	for _, x := range []struct {
		b    []byte
		want api.Errno
	}{
		{nil, api.OK}, {[]byte{0, 1, 0, 4}, api.OK}, {[]byte{0, 1, 0, 5, 9, 0, 0, 0}, api.OK}, {bytes.Repeat([]byte{0, 1, 0, 4}, 32), api.OK},
		{[]byte{0}, api.ErrShort}, {[]byte{0, 1, 0}, api.ErrShort}, {[]byte{0, 1, 0, 5}, api.ErrShort}, {[]byte{0, 1, 0, 5, 9}, api.ErrShort}, {[]byte{0, 1, 0, 5, 9, 0, 0}, api.ErrShort},
		{[]byte{0, 1, 0, 3}, api.ErrForm}, {[]byte{0, 1, 0, 0, 0, 0, 0, 0}, api.ErrForm}, {[]byte{0, 1, 0, 5, 9, 0, 0, 1}, api.ErrForm}, {[]byte{0, 1, 0, 4, 0, 1, 0, 3}, api.ErrForm},
		{[]byte{0, 1, 4, 181}, api.ErrLarge}, {bytes.Repeat([]byte{0, 1, 0, 4}, 33), api.ErrLarge}, {append(bytes.Repeat([]byte{0, 1, 0, 4}, 32), 9), api.ErrLarge},
	} {
		for _, kind := range []uint8{api.Init, api.InitAck, api.Heartbeat, api.HeartbeatAck, api.Abort, api.Error, api.Reset} {
			body := x.b
			if kind < 3 {
				body = append(make([]byte, 16), x.b...)
			}
			b := append(rough(kind, 0, 4+len(body), body...), make([]byte, (4-len(body)%4)%4)...)
			for _, behind := range behinds() {
				if err := checkRead(t, "Params", slices.Concat(b, behind)); err != x.want {
					t.Errorf("the words tell %v of %v in kind %d, want %v", err, x.b, kind, x.want)
				}
			}
		}
	}
}

// P7.2: each octet that fills up is 0 and is there; it is too short ahead of not being 0.
func TestDecodeFilledBadly(t *testing.T) {
	for _, kind := range append([]uint8{api.Data, api.CookieEcho}, strange...) {
		for _, n := range []int{1, 2, 3, 5, 6, 7, 1197, 1198, 1199} {
			body := value(n)
			if kind == api.Data {
				body = append(make([]byte, 12), body...)
			}
			cut := rough(kind, 0, 4+len(body), body...)
			fill := 4 - n%4
			for left := range fill {
				for _, x := range []byte{0, 1, 255} {
					checkError(t, "filled too shortly", append(bytes.Clone(cut), bytes.Repeat([]byte{x}, left)...), api.ErrShort)
				}
			}
			for place := range fill {
				for _, x := range []byte{1, 2, 128, 255} {
					b := append(bytes.Clone(cut), make([]byte, fill)...)
					b[len(cut)+place] = x
					checkError(t, "filled badly", b, api.ErrForm)
					checkError(t, "filled badly, something behind it", append(b, 8, 0, 0, 4), api.ErrForm)
				}
			}
		}
	}
}

// P7.2: which error is told where several apply.
func TestDecodeWhichError(t *testing.T) {
	for _, x := range []struct {
		name string
		b    []byte
		want api.Errno
	}{
		{"no whole length, ahead of its being below 4", []byte{8, 0, 0}, api.ErrShort},
		{"a length below 4, ahead of fields that are missing", rough(7, 0, 3), api.ErrForm},
		{"octets missing, ahead of those left", rough(8, 0, 9, 1, 2, 3, 4), api.ErrShort},
		{"octets missing, ahead of a Sack's 65", sack(65, 65, 8)[:20], api.ErrShort},
		{"octets missing, ahead of a part of a Skip", forward(1, 1)[:12], api.ErrShort},
		{"octets missing, ahead of 65 Skips", forward(65, 0)[:267], api.ErrShort},
		{"octets missing, ahead of too much Data", rough(10, 0, 4+1201, value(1200)...), api.ErrShort},
		{"octets missing, ahead of a parameter's length", rough(6, 0, 9, 0, 1, 0, 0), api.ErrShort},
		{"a field missing, ahead of what fills up badly", rough(7, 0, 7, 0, 0, 0, 1), api.ErrShort},
		{"a part of a Skip, ahead of what fills up too shortly", rough(192, 0, 9, 0, 0, 0, 1, 5), api.ErrForm},
		{"a Sack's 65, ahead of what fills up too shortly", append(sack(65, 0, 0)[:3:3], append([]byte{17}, append(sack(65, 0, 0)[4:], 1)...)...), api.ErrLarge},
		{"too much Data, ahead of what fills up too shortly", rough(10, 0, 4+1201, value(1201)...), api.ErrLarge},
		{"too much Data, ahead of what fills up badly", rough(10, 0, 4+1201, append(value(1201), 1, 1, 1)...), api.ErrLarge},
		{"a parameter too great, ahead of what fills up too shortly", rough(6, 0, 9, 0, 1, 255, 255, 0), api.ErrLarge},
		{"a parameter cut off, ahead of what fills up badly", rough(6, 0, 9, 0, 1, 0, 5, 0, 1, 1, 1), api.ErrShort},
		{"octets left, ahead of what fills up too shortly", rough(8, 0, 5, 1), api.ErrForm},
		{"a field missing, ahead of an empty Data's", rough(0, 0, 15, make([]byte, 12)...), api.ErrShort},
		{"64 Skips and a part of one", forward(64, 1), api.ErrForm},
		{"65 Skips and a part of one", forward(65, 1), api.ErrLarge},
	} {
		checkError(t, x.name, x.b, x.want)
	}
}

// P7.2: octets drawn from a fixed seed, most of them chunks of which a few octets were changed, cut off or laid behind, are as the chapter's words have them.
func TestDecodeRows(t *testing.T) {
	draw := rand.New(rand.NewSource(72))
	told := map[api.Errno]int{}
	for range 40000 {
		b, _ := wordOfEncode(drawnChunk(draw))
		for range draw.Intn(3) {
			if len(b) > 0 {
				place := draw.Intn(len(b))
				if draw.Intn(3) == 0 {
					place = min(place, 2+draw.Intn(22))
				}
				b[place] = []byte{0, 1, 2, 4, 5, 64, 65, byte(draw.Intn(256))}[draw.Intn(8)]
			}
		}
		switch draw.Intn(4) {
		case 0:
			b = b[:draw.Intn(len(b)+1)]
		case 1:
			b = append(b, value(draw.Intn(9))...)
		}
		told[checkRead(t, "a row", b)]++
	}
	for _, err := range []api.Errno{api.OK, api.ErrShort, api.ErrForm, api.ErrLarge} {
		if told[err] < 500 {
			t.Errorf("the rows tell %v only %d times", err, told[err])
		}
	}
}

// R3: what is read shares nothing with what was handed in, nor with another answer, nor do two lists of one answer.
func TestDecodeIsNewMemory(t *testing.T) {
	for _, kind := range kinds() {
		c := greatest(kind)
		b, _ := wordOfEncode(c)
		b = append(b, 99, 99, 99, 99)
		got, _, _ := chunk.Decode(b[:len(b)-4])
		again, _, _ := chunk.Decode(b[:len(b)-4])
		third, _, _ := chunk.Decode(b)
		for i := range b {
			b[i] = 42
		}
		if !alike(got, c) || !alike(again, c) || !alike(third, c) {
			t.Errorf("kind %d: the answer changes with what was handed in", kind)
		}
		lengthen(got)
		if !alike(got, c) {
			t.Errorf("kind %d: a list of the answer, made longer, changes another one", kind)
		}
		overwrite(got)
		lengthen(got)
		if !bytes.Equal(b, bytes.Repeat([]byte{42}, len(b))) {
			t.Errorf("kind %d: what was handed in changes with the answer", kind)
		}
		if !alike(again, c) || !alike(third, c) {
			t.Errorf("kind %d: one answer changes with another", kind)
		}
	}
}

// lengthen writes behind all that a chunk's lists hold.
func lengthen(c api.Chunk) {
	_ = append(c.Blocks, api.Block{From: 78, To: 78})
	_ = append(c.Dups, 78)
	_ = append(c.Skips, api.Skip{Stream: 78, Ssn: 78})
	_ = append(c.Params, api.Param{Kind: 78})
	_ = append(c.Data, 78, 78, 78, 78)
	for _, p := range c.Params {
		_ = append(p.V, 78, 78, 78, 78)
	}
}
