package tlv_test

import (
	"bytes"
	"math/rand"
	"slices"
	"testing"

	"bollard/api"
	"bollard/tlv"
)

// P6.2: the chapter's example read, and each one behind the other.
func TestDecode(t *testing.T) {
	checkDecode(t, "the example", []byte{0, 7, 0, 5, 9, 0, 0, 0}, []api.Param{{Kind: 7, V: []byte{9}}}, api.OK)
	b := []byte{1, 2, 0, 7, 1, 2, 3, 0, 255, 255, 0, 4, 0, 0, 0, 8, 5, 6, 7, 8, 1, 2, 0, 6, 0, 0, 0, 0}
	want := []api.Param{{Kind: 258, V: []byte{1, 2, 3}}, {Kind: 65535}, {Kind: 0, V: []byte{5, 6, 7, 8}}, {Kind: 258, V: []byte{0, 0}}}
	checkDecode(t, "four", b, want, api.OK)
}

// P6.2: none, one, and as many as may be.
func TestDecodeHowMany(t *testing.T) {
	checkDecode(t, "nil", nil, nil, api.OK)
	checkDecode(t, "none", []byte{}, nil, api.OK)
	for _, n := range []int{1, 2, 31, 32} {
		b, _ := wordOfEncode(params(n))
		checkDecode(t, "some", b, params(n), api.OK)
		checkDecode(t, "empty ones", bytes.Repeat([]byte{0, 9, 0, 4}, n), slices.Repeat([]api.Param{{Kind: 9}}, n), api.OK)
	}
}

// P6.2: the one too many is too many ahead of whatever stands in it.
func TestDecodeTooMany(t *testing.T) {
	full, _ := wordOfEncode(params(32))
	for _, behind := range [][]byte{
		{0}, {255}, {0, 7}, {0, 7, 0}, {0, 7, 0, 0}, {0, 7, 0, 3}, {0, 7, 0, 4}, {0, 7, 0, 5}, {0, 7, 0, 5, 9}, {0, 7, 0, 5, 9, 0, 0},
		{0, 7, 0, 5, 9, 0, 0, 0}, {0, 7, 0, 5, 9, 0, 1, 0}, {0, 7, 4, 181}, {255, 255, 255, 255}, make([]byte, 100), value(5000),
	} {
		checkError(t, "one too many", append(bytes.Clone(full), behind...), api.ErrLarge)
	}
	for _, n := range []int{33, 34, 100, 10000} {
		checkError(t, "too many", bytes.Repeat([]byte{0, 1, 0, 4}, n), api.ErrLarge)
	}
}

// P6.2: what stands in the first 32 is told ahead of there being more.
func TestDecodeErrorAheadOfTooMany(t *testing.T) {
	for n := range 32 {
		ahead := bytes.Repeat([]byte{0, 1, 0, 4}, n)
		behind := bytes.Repeat([]byte{0, 1, 0, 4}, 40)
		for _, length := range []int{0, 1, 2, 3} {
			checkError(t, "a length below 4", slices.Concat(ahead, rough(7, length), behind), api.ErrForm)
		}
		checkError(t, "what fills up", slices.Concat(ahead, rough(7, 5, 9, 0, 1, 0), behind), api.ErrForm)
		checkError(t, "a value that ends too soon", slices.Concat(ahead, rough(7, 1204), behind), api.ErrShort)
		checkError(t, "a length too great", slices.Concat(ahead, rough(7, 1205), behind), api.ErrLarge)
		checkError(t, "no length", slices.Concat(ahead, []byte{0, 7}), api.ErrShort)
	}
}

// P6.2: a value of every size that may be, alone and ahead of another parameter.
func TestDecodeSizes(t *testing.T) {
	for _, n := range sizes {
		b := append(rough(7, 4+n, value(n)...), make([]byte, (4-n%4)%4)...)
		checkDecode(t, "one", b, []api.Param{{Kind: 7, V: value(n)}}, api.OK)
		checkDecode(t, "ahead of another one", append(b, 0, 8, 0, 5, 1, 0, 0, 0), []api.Param{{Kind: 7, V: value(n)}, {Kind: 8, V: []byte{1}}}, api.OK)
		zero := make([]byte, 4+(n+3)/4*4)
		copy(zero, rough(7, 4+n))
		checkDecode(t, "of octets 0", zero, []api.Param{{Kind: 7, V: make([]byte, n)}}, api.OK)
	}
	l := slices.Repeat([]api.Param{{Kind: 9, V: value(1200)}}, 32)
	b, _ := wordOfEncode(l)
	checkDecode(t, "as many and as long as may be", b, l, api.OK)
}

// P6.2: the highest and the lowest kinds.
func TestDecodeKinds(t *testing.T) {
	for _, kind := range kinds {
		checkDecode(t, "a kind", append(rough(kind, 4), rough(kind, 5, 3, 0, 0, 0)...), []api.Param{{Kind: kind}, {Kind: kind, V: []byte{3}}}, api.OK)
	}
}

// P6.2: octets that are cut off at a place within a parameter are too short; cut off between two they are fewer.
func TestDecodeCutOff(t *testing.T) {
	l := []api.Param{{Kind: 258}, {Kind: 65535, V: value(1)}, {Kind: 3, V: value(2)}, {Kind: 0, V: value(3)}, {Kind: 7, V: value(4)}, {Kind: 8, V: value(5)}, {Kind: 9, V: value(1200)}, {Kind: 9, V: value(1197)}}
	ends := map[int]int{}
	for n := range len(l) + 1 {
		b, _ := wordOfEncode(l[:n])
		ends[len(b)] = n
	}
	b, _ := wordOfEncode(l)
	for n := range len(b) + 1 {
		if k, ok := ends[n]; ok {
			checkDecode(t, "cut off between two", b[:n], l[:k], api.OK)
		} else {
			checkError(t, "cut off", b[:n], api.ErrShort)
		}
	}
}

// P6.2: a length below 4 is none, whatever stands behind it; but one that is not whole ends too soon.
func TestDecodeLengthBelow(t *testing.T) {
	for length := range 4 {
		for _, behind := range [][]byte{nil, {0}, {0, 0, 0, 0}, {9, 9, 9, 9}, value(2000)} {
			checkError(t, "a length below 4", rough(7, length, behind...), api.ErrForm)
			checkError(t, "a length below 4, the second one", append(rough(7, 6, 1, 2, 0, 0), rough(7, length, behind...)...), api.ErrForm)
		}
		for n := 1; n < 4; n++ {
			checkError(t, "a length below 4 cut off", rough(0, length)[:n], api.ErrShort)
		}
	}
}

// P6.2: a length that is too great is so as soon as it is read: whether its octets are missing, are there, or are filled up badly.
func TestDecodeLengthAbove(t *testing.T) {
	for _, length := range []int{1205, 1206, 1207, 1208, 1209, 1280, 4096, 32768, 65280, 65531, 65535} {
		for _, behind := range [][]byte{nil, {0}, value(1200), value(1201), make([]byte, 1204), make([]byte, 70000), value(70000)} {
			checkError(t, "a length too great", rough(7, length, behind...), api.ErrLarge)
			checkError(t, "a length too great, the second one", append(rough(7, 6, 1, 2, 0, 0), rough(7, length, behind...)...), api.ErrLarge)
		}
	}
	checkError(t, "a value of 1200 that is missing", rough(7, 1204), api.ErrShort)
	checkError(t, "a value of 1200 of which one is missing", rough(7, 1204, value(1199)...), api.ErrShort)
}

// P6.2: each octet that fills up is 0, at every size and whatever follows.
func TestDecodeFilledBadly(t *testing.T) {
	for _, n := range []int{1, 2, 3, 5, 6, 7, 1197, 1198, 1199} {
		good := append(rough(7, 4+n, value(n)...), make([]byte, 4-n%4)...)
		for place := 4 + n; place < len(good); place++ {
			for _, x := range []byte{1, 2, 128, 255} {
				b := bytes.Clone(good)
				b[place] = x
				checkError(t, "filled badly", b, api.ErrForm)
				checkError(t, "filled badly, ahead of another one", append(bytes.Clone(b), 0, 8, 0, 4), api.ErrForm)
				checkError(t, "filled badly, ahead of one cut off", append(bytes.Clone(b), 0), api.ErrForm)
				checkError(t, "filled badly, behind another one", append([]byte{0, 8, 0, 4}, b...), api.ErrForm)
			}
		}
	}
}

// P6.2: what fills up ends too soon ahead of not being 0.
func TestDecodeFilledShortAndBadly(t *testing.T) {
	for _, n := range []int{1, 2, 5, 6, 1197, 1198} {
		for left := range 4 - n%4 {
			for _, x := range []byte{0, 1, 255} {
				checkError(t, "filled too shortly", append(rough(7, 4+n, value(n)...), bytes.Repeat([]byte{x}, left)...), api.ErrShort)
			}
		}
	}
}

// P6.2: octets drawn from a fixed seed, most of them parameters of which a few octets were changed, cut off or laid behind, are as the chapter's words have them.
func TestDecodeRows(t *testing.T) {
	draw := rand.New(rand.NewSource(62))
	told := map[api.Errno]int{}
	for range 20000 {
		b, _ := wordOfEncode(drawnParams(draw))
		for range draw.Intn(3) {
			if len(b) > 0 {
				b[draw.Intn(len(b))] = []byte{0, 1, 2, 4, 5, byte(draw.Intn(256))}[draw.Intn(6)]
			}
		}
		switch draw.Intn(4) {
		case 0:
			b = b[:draw.Intn(len(b)+1)]
		case 1:
			b = append(b, make([]byte, draw.Intn(9))...)
		}
		want, err := wordOfDecode(b)
		checkDecode(t, "a row", b, want, err)
		told[err]++
	}
	for _, err := range []api.Errno{api.OK, api.ErrShort, api.ErrForm, api.ErrLarge} {
		if told[err] < 100 {
			t.Errorf("the rows tell %v only %d times", err, told[err])
		}
	}
}

// R3: what is answered shares nothing with what was handed in, nor with another answer, nor do two values of one answer.
func TestDecodeIsNewMemory(t *testing.T) {
	whole := []byte{0, 1, 0, 8, 1, 2, 3, 4, 0, 2, 0, 4, 0, 3, 0, 7, 5, 6, 7, 0, 0, 4, 0, 8, 8, 9, 10, 11, 99, 99, 99, 99}
	kept := bytes.Clone(whole)
	b := whole[:28]
	want, _ := wordOfDecode(kept[:28])
	got, _ := tlv.Decode(b)
	again, _ := tlv.Decode(b)
	for i := range whole {
		whole[i] = 42
	}
	if !alike(got, want) || !alike(again, want) {
		t.Fatalf("the answer changes with what was handed in: %v", got)
	}
	for i := range got {
		others := copied(got)
		for j := range got[i].V {
			got[i].V[j] = 77
			others[i].V[j] = 77
		}
		_ = append(got[i].V, 78, 78, 78, 78)
		if !alike(got, others) {
			t.Errorf("the value %d, written to, changes another one: %v, want %v", i, got, others)
		}
	}
	for i := range got {
		got[i] = api.Param{Kind: 5}
	}
	_ = append(got, api.Param{Kind: 6})
	if !alike(again, want) {
		t.Errorf("one answer changes with another: %v", again)
	}
	if !bytes.Equal(whole, bytes.Repeat([]byte{42}, len(whole))) {
		t.Errorf("what was handed in changes with the answer: %v", whole)
	}
}
