package dcep_test

import (
	"bytes"
	"encoding/binary"
	"math/rand"
	"slices"
	"testing"

	"bollard/api"
	"bollard/dcep"
)

// checkDecode asks for the opening of octets, or the error, by the chapter's words; and that the octets stay, those behind them in the same memory, too, and that what was told does not go by them.
func checkDecode(t *testing.T, b []byte) (dcep.Opening, api.Errno) {
	t.Helper()
	memory := append(slices.Clone(b), 97, 98, 99)
	whole := slices.Clone(memory)
	o, err := dcep.Decode(memory[:len(b)])
	if !bytes.Equal(memory, whole) {
		t.Errorf("Decode(%v): the octets became %v", b, memory)
	}
	turn(memory)
	if want, fault := decoded(b); o != want || err != fault {
		t.Errorf("Decode(%v) is %#v, %v, want %#v, %v", b, o, err, want, fault)
	}
	return o, err
}

// refusedDecode asks for an error, and nothing beside it.
func refusedDecode(t *testing.T, b []byte, want api.Errno) {
	t.Helper()
	if o, err := checkDecode(t, b); err != want || o != (dcep.Opening{}) {
		t.Errorf("Decode(%v) is %#v, %v, want %v", b, o, err, want)
	}
}

// checkBack asks that an opening that may be is the same there and back.
func checkBack(t *testing.T, o dcep.Opening) {
	t.Helper()
	b, err := checkEncode(t, o)
	if err != api.OK {
		t.Errorf("Encode(%#v) is %v", o, err)
		return
	}
	if back, err := checkDecode(t, b); err != api.OK || back != o {
		t.Errorf("there and back %#v is %#v, %v", o, back, err)
	}
}

// headed are octets with lengths of their own, whatever texts are there.
func headed(label, protocol int, texts string) []byte {
	b := []byte{3, 0, 0, 0, 0, 0, 0, 0}
	b = binary.BigEndian.AppendUint16(b, uint16(label))
	b = binary.BigEndian.AppendUint16(b, uint16(protocol))
	return append(b, texts...)
}

// someOpenings are openings that may be.
func someOpenings() []dcep.Opening {
	return []dcep.Opening{{}, {Label: "a"}, {Protocol: "a"}, labelled("chat"), labelled("gr\u00fc\u00dfe"), {Kind: 130, Priority: 65535, Limit: 1<<32 - 1, Label: long(256), Protocol: long(256)}, {Kind: 1, Label: long(256)}, {Kind: 128, Protocol: long(255)}}
}

// P18.1: there and back; cut off at each place; with octets behind it.
func TestDecode(t *testing.T) {
	for _, o := range someOpenings() {
		checkBack(t, o)
		b := laid(o)
		for n := range len(b) {
			refusedDecode(t, b[:n], api.ErrShort)
		}
		for _, behind := range [][]byte{{0}, {3}, {2}, {255}, {0, 0}, make([]byte, 65536), b} {
			refusedDecode(t, append(slices.Clone(b), behind...), api.ErrForm)
		}
	}
}

// P18.1: of no octets.
func TestDecodeNone(t *testing.T) {
	refusedDecode(t, nil, api.ErrShort)
	refusedDecode(t, []byte{}, api.ErrShort)
	refusedDecode(t, []byte{3}, api.ErrShort)
}

// P18.1: begun by another octet than 3, ahead of all other faults.
func TestDecodeBegun(t *testing.T) {
	for first := range 256 {
		if first == 3 {
			continue
		}
		for _, b := range [][]byte{laid(labelled("a")), {3}, headed(0, 0, "")[:11], headed(257, 0, ""), headed(1, 1, "a"), headed(0, 0, "a"), headed(1, 0, "\xff"), {3, 9, 0, 0, 0, 0, 0, 0, 0, 0, 0, 0}} {
			b = slices.Clone(b)
			b[0] = byte(first)
			refusedDecode(t, b, api.ErrForm)
		}
	}
}

// P18.1: each length at the edges, with all of the texts there, none, some, and one octet more or less.
func TestDecodeLengths(t *testing.T) {
	for _, label := range lengths {
		for _, protocol := range lengths {
			if label > 65535 || protocol > 65535 {
				continue
			}
			for _, there := range []int{0, 1, label - 1, label, label + 1, label + protocol - 1, label + protocol, label + protocol + 1} {
				if there < 0 || there > 2000 {
					continue
				}
				_, err := checkDecode(t, headed(label, protocol, long(there)))
				want := api.OK
				switch {
				case label > 256 || protocol > 256:
					want = api.ErrLarge
				case there < label+protocol:
					want = api.ErrShort
				case there > label+protocol:
					want = api.ErrForm
				}
				if err != want {
					t.Errorf("lengths %d and %d, %d octets: %v, want %v", label, protocol, there, err, want)
				}
			}
		}
	}
}

// P18.1: each octet of a length counts; what is above 256 is so though the texts are missing, or there.
func TestDecodeLarge(t *testing.T) {
	for place := 8; place < 12; place++ {
		for v := range 256 {
			b := headed(0, 0, "")
			b[place] = byte(v)
			want := api.ErrShort
			if v == 0 {
				want = api.OK
			} else if place%2 == 0 && v > 1 {
				want = api.ErrLarge
			}
			if _, err := checkDecode(t, b); err != want {
				t.Errorf("%d at the place %d: %v, want %v", v, place, err, want)
			}
		}
	}
	refusedDecode(t, headed(257, 0, long(257)), api.ErrLarge)
	refusedDecode(t, headed(0, 257, long(257)), api.ErrLarge)
	refusedDecode(t, headed(257, 257, long(514)), api.ErrLarge)
	refusedDecode(t, headed(65535, 65535, long(131070)), api.ErrLarge)
}

// P18.1: the texts are cut where the lengths say it, even through what would be one character.
func TestDecodeCuts(t *testing.T) {
	for _, x := range []struct {
		label, protocol int
		texts           string
		want            dcep.Opening
		err             api.Errno
	}{
		{1, 3, "abcd", dcep.Opening{Label: "a", Protocol: "bcd"}, api.OK},
		{4, 0, "abcd", dcep.Opening{Label: "abcd"}, api.OK},
		{0, 4, "abcd", dcep.Opening{Protocol: "abcd"}, api.OK},
		{2, 2, "\u00e9\u00e9", dcep.Opening{Label: "\u00e9", Protocol: "\u00e9"}, api.OK},
		{1, 3, "\u00e9\u00e9", dcep.Opening{}, api.ErrArg},
		{1, 1, "\u00e9", dcep.Opening{}, api.ErrArg},
	} {
		if o, err := checkDecode(t, headed(x.label, x.protocol, x.texts)); o != x.want || err != x.err {
			t.Errorf("%q of %d and %d: %#v, %v, want %#v, %v", x.texts, x.label, x.protocol, o, err, x.want, x.err)
		}
	}
}

// P18.1: a Kind that is none, texts that are not UTF-8.
func TestDecodeWrong(t *testing.T) {
	for kind := range 256 {
		o := labelled("a")
		o.Kind = uint8(kind)
		if slices.Contains(kinds, o.Kind) {
			checkBack(t, o)
			continue
		}
		refusedDecode(t, laid(o), api.ErrArg)
		refusedDecode(t, laid(dcep.Opening{Kind: o.Kind}), api.ErrArg)
	}
	for _, text := range noTexts {
		for _, o := range []dcep.Opening{{Label: text}, {Protocol: text}, {Label: text, Protocol: text}, {Kind: 2, Label: "a", Protocol: text}, {Kind: 128, Label: text, Protocol: "a"}, {Label: "a" + text}, {Kind: 77, Label: text}} {
			refusedDecode(t, laid(o), api.ErrArg)
		}
	}
}

// P18.1: of several faults the one that is named first; a Kind, a Label, a Protocol is asked behind all others.
func TestDecodeSeveralFaults(t *testing.T) {
	for _, x := range []struct {
		name string
		b    []byte
		want api.Errno
	}{
		{"a Kind, cut off ahead of the texts", []byte{3, 9, 0}, api.ErrShort},
		{"a Kind, cut off in the lengths", append([]byte{3, 9}, headed(257, 257, "")[2:11]...), api.ErrShort},
		{"a Kind, a length", append([]byte{3, 9}, headed(257, 0, "")[2:]...), api.ErrLarge},
		{"a Kind, texts missing", append([]byte{3, 9}, headed(2, 0, "a")[2:]...), api.ErrShort},
		{"a Kind, octets behind", append([]byte{3, 9}, headed(1, 0, "ab")[2:]...), api.ErrForm},
		{"a Label, texts missing", headed(1, 1, "\xff"), api.ErrShort},
		{"a Label, octets behind", headed(1, 0, "\xffa"), api.ErrForm},
		{"a Label, a Protocol's length", headed(1, 257, "\xff"), api.ErrLarge},
		{"a Label that is none, and large", headed(257, 0, long(256)+"\xff"), api.ErrLarge},
		{"a Protocol, octets behind", headed(0, 1, "\xffa"), api.ErrForm},
		{"a length, octets behind", headed(257, 0, long(300)), api.ErrLarge},
		{"a length, texts missing", headed(0, 512, "a"), api.ErrLarge},
		{"the last octet of the lengths is missing", headed(512, 512, "")[:11], api.ErrShort},
	} {
		if _, err := checkDecode(t, x.b); err != x.want {
			t.Errorf("%s: %v, want %v", x.name, err, x.want)
		}
	}
}

// P18.1: octets as they are drawn, most of them nearly an opening.
func TestDecodeDrawn(t *testing.T) {
	draw := rand.New(rand.NewSource(182))
	told := map[api.Errno]int{}
	for range 40000 {
		b := laid(drawnOpening(draw))
		for range draw.Intn(3) {
			switch draw.Intn(4) {
			case 0:
				b = b[:draw.Intn(len(b)+1)]
			case 1:
				b = append(b, make([]byte, draw.Intn(3))...)
			default:
				if len(b) > 0 {
					b[draw.Intn(min(len(b), 14))] ^= 1 << draw.Intn(8)
				}
			}
		}
		o, err := checkDecode(t, b)
		told[err]++
		if err == api.OK {
			if again, _ := dcep.Encode(o); !bytes.Equal(again, b) {
				t.Errorf("there and back %v is %v", b, again)
			}
		}
	}
	for _, err := range []api.Errno{api.OK, api.ErrArg, api.ErrShort, api.ErrForm, api.ErrLarge} {
		if told[err] == 0 {
			t.Errorf("%v was not met", err)
		}
	}
}
