package dcep_test

import (
	"bytes"
	"math/rand"
	"slices"
	"strings"
	"testing"

	"bollard/api"
	"bollard/dcep"
)

// checkEncode asks for an opening's octets, or the error, by the chapter's words.
func checkEncode(t *testing.T, o dcep.Opening) ([]byte, api.Errno) {
	t.Helper()
	b, err := dcep.Encode(o)
	want, fault := encoded(o)
	if !bytes.Equal(b, want) || err != fault {
		t.Errorf("Encode(%#v) is %v, %v, want %v, %v", o, b, err, want, fault)
	}
	return b, err
}

// refusedEncode asks for an error, and nothing beside it.
func refusedEncode(t *testing.T, o dcep.Opening, want api.Errno) {
	t.Helper()
	if b, err := checkEncode(t, o); err != want || len(b) != 0 {
		t.Errorf("Encode(%#v) is %v, %v, want %v", o, b, err, want)
	}
}

// The chapter's example, and one each of whose octets is another one.
func TestEncode(t *testing.T) {
	for _, x := range []struct {
		o    dcep.Opening
		want []byte
	}{
		{dcep.Opening{Kind: 0, Label: "a"}, []byte{3, 0, 0, 0, 0, 0, 0, 0, 0, 1, 0, 0, 97}},
		{dcep.Opening{}, []byte{3, 0, 0, 0, 0, 0, 0, 0, 0, 0, 0, 0}},
		{dcep.Opening{Kind: 130, Priority: 0x0102, Limit: 0x04050607, Label: "ab", Protocol: "cde"}, []byte{3, 130, 1, 2, 4, 5, 6, 7, 0, 2, 0, 3, 97, 98, 99, 100, 101}},
		{dcep.Opening{Kind: 1, Priority: 65535, Limit: 4294967295, Protocol: "\u00e9"}, []byte{3, 1, 255, 255, 255, 255, 255, 255, 0, 0, 0, 2, 195, 169}},
	} {
		if b, err := checkEncode(t, x.o); err != api.OK || !bytes.Equal(b, x.want) {
			t.Errorf("Encode(%#v) is %v, %v, want %v", x.o, b, err, x.want)
		}
	}
}

// P18.1: each Kind from 0 to 255.
func TestEncodeKinds(t *testing.T) {
	told := 0
	for kind := range 256 {
		o := labelled("a")
		o.Kind = uint8(kind)
		b, err := checkEncode(t, o)
		if err == api.OK {
			told++
			if b[1] != uint8(kind) {
				t.Errorf("of the kind %d: %v", kind, b)
			}
		} else if err != api.ErrArg {
			t.Errorf("of the kind %d: %v", kind, err)
		}
	}
	if told != 6 {
		t.Errorf("%d kinds may be", told)
	}
}

// P18.1: Priority and Limit at their edges, and each bit of them.
func TestEncodeNumbers(t *testing.T) {
	for _, kind := range kinds {
		for _, priority := range []uint16{0, 1, 255, 256, 65535} {
			for _, limit := range []uint32{0, 1, 65535, 65536, 1<<31 - 1, 1 << 31, 1<<32 - 1} {
				checkBack(t, dcep.Opening{Kind: kind, Priority: priority, Limit: limit, Label: "a"})
			}
		}
	}
	for bit := range 48 {
		o, want := dcep.Opening{Limit: 1 << bit}, make([]byte, 12)
		if bit >= 32 {
			o = dcep.Opening{Priority: 1 << (bit - 32)}
		}
		want[0], want[7-bit/8] = 3, 1<<(bit%8)
		if b, err := checkEncode(t, o); err != api.OK || !bytes.Equal(b, want) {
			t.Errorf("of the bit %d: %v, %v, want %v", bit, b, err, want)
		}
	}
}

// P18.1: Label and Protocol of lengths at the edges, each beside each.
func TestEncodeLengths(t *testing.T) {
	for _, label := range lengths {
		for _, protocol := range lengths {
			o := dcep.Opening{Kind: 2, Label: long(label), Protocol: strings.Repeat("y", protocol)}
			if label > 256 || protocol > 256 {
				refusedEncode(t, o, api.ErrLarge)
				continue
			}
			b, err := checkEncode(t, o)
			if err != api.OK || len(b) != 12+label+protocol || !bytes.Equal(b[8:12], []byte{byte(label / 256), byte(label % 256), byte(protocol / 256), byte(protocol % 256)}) {
				t.Errorf("of %d and %d octets: %v, %v", label, protocol, b, err)
			}
		}
	}
}

// P18.1: octets are counted, not characters.
func TestEncodeCountsOctets(t *testing.T) {
	for _, x := range []struct {
		text string
		want api.Errno
	}{
		{strings.Repeat("\u00e9", 128), api.OK},
		{strings.Repeat("\u00e9", 129), api.ErrLarge},
		{"a" + strings.Repeat("\u20ac", 85), api.OK},
		{strings.Repeat("\u20ac", 86), api.ErrLarge},
		{strings.Repeat("\U0001d11e", 64), api.OK},
		{"a" + strings.Repeat("\U0001d11e", 64), api.ErrLarge},
		{strings.Repeat("\U0001d11e", 256), api.ErrLarge},
	} {
		for _, o := range []dcep.Opening{{Label: x.text}, {Protocol: x.text}, {Label: x.text, Protocol: x.text}} {
			if _, err := checkEncode(t, o); err != x.want {
				t.Errorf("of %d octets: %v, want %v", len(x.text), err, x.want)
			}
		}
	}
}

// P18.1: texts that are UTF-8, and texts that are not, each alone and within another one.
func TestEncodeTexts(t *testing.T) {
	for _, text := range texts {
		for _, o := range []dcep.Opening{{Label: text}, {Protocol: text}, {Label: text, Protocol: text}, {Label: "a" + text + "b", Protocol: text + text}} {
			checkBack(t, o)
		}
	}
	for _, text := range noTexts {
		for _, o := range []dcep.Opening{{Label: text}, {Protocol: text}, {Label: text, Protocol: text}, {Label: text, Protocol: "a"}, {Label: "a", Protocol: text}, {Label: "a" + text}, {Protocol: "\u00e9" + text}, {Label: long(255) + text}} {
			refusedEncode(t, o, api.ErrArg)
		}
	}
	// Together they would be one.
	refusedEncode(t, dcep.Opening{Label: "\xc3", Protocol: "\xa9"}, api.ErrArg)
}

// P18.1: of several faults the one that is named first.
func TestEncodeSeveralFaults(t *testing.T) {
	for _, o := range []dcep.Opening{
		{Kind: 3, Label: long(257)},
		{Kind: 255, Protocol: long(257)},
		{Kind: 127, Label: long(257), Protocol: long(300)},
		{Label: long(257), Protocol: "\xff"},
		{Label: "\xff", Protocol: long(257)},
		{Label: long(257) + "\xff"},
		{Label: long(256) + "\xff"},
		{Protocol: "\xff" + long(256)},
		{Kind: 4, Label: "\xff", Protocol: long(257)},
	} {
		refusedEncode(t, o, api.ErrArg)
	}
}

// P18.1: openings as they are drawn.
func TestEncodeDrawn(t *testing.T) {
	draw := rand.New(rand.NewSource(181))
	told := map[api.Errno]int{}
	for range 20000 {
		_, err := checkEncode(t, drawnOpening(draw))
		told[err]++
	}
	if told[api.OK] == 0 || told[api.ErrArg] == 0 || told[api.ErrLarge] == 0 {
		t.Errorf("there were %v", told)
	}
}

// R3: what is answered is new memory, each time.
func TestEncodeIsNewMemory(t *testing.T) {
	o := labelled("a")
	one, _ := dcep.Encode(o)
	two, _ := dcep.Encode(o)
	want := slices.Clone(one)
	turn(one)
	if !bytes.Equal(two, want) || o != labelled("a") {
		t.Errorf("another answer became %v, what was handed in %#v", two, o)
	}
	if again, err := dcep.Encode(o); err != api.OK || !bytes.Equal(again, want) {
		t.Errorf("asked again: %v, %v", again, err)
	}
}
