package audio_test

import (
	"bytes"
	"math/rand"
	"slices"
	"testing"

	"bollard/api"
	"bollard/audio"
)

// said is a packet as octets, by the chapter's words.
func said(p audio.Packet) []byte {
	second := int(p.Kind)
	if p.Marker {
		second += 128
	}
	l := []byte{128, byte(second), byte(p.Seq / 256), byte(p.Seq % 256)}
	for _, v := range []uint32{p.Stamp, p.Source} {
		l = append(l, byte(v/16777216), byte(v/65536%256), byte(v/256%256), byte(v%256))
	}
	return append(l, p.Data...)
}

// numbered are n octets, of which those beside each other differ.
func numbered(n int) []byte {
	l := make([]byte, n)
	for i := range l {
		l[i] = byte(3*i + 1)
	}
	return l
}

// edges are packets with each field at 0, at its greatest and between.
func edges() []audio.Packet {
	var l []audio.Packet
	for _, marker := range []bool{false, true} {
		for _, kind := range []uint8{0, 1, 63, 64, 126, 127} {
			for _, seq := range []uint16{0, 1, 255, 256, 258, 32768, 65535} {
				for _, stamp := range []uint32{0, 1 << 24, 16909060, 1<<32 - 1} {
					for _, source := range []uint32{0, 1, 84281096, 1<<32 - 1} {
						l = append(l, audio.Packet{Marker: marker, Kind: kind, Seq: seq, Stamp: stamp, Source: source, Data: numbered(int(kind) % 3)})
					}
				}
			}
		}
	}
	for _, n := range []int{0, 1, 2, 11, 12, 255, 256, 1187, 1188} {
		l = append(l, audio.Packet{Kind: 5, Seq: 258, Data: numbered(n)}, audio.Packet{Marker: true, Stamp: 7, Source: 9, Data: make([]byte, n)})
	}
	return l
}

// P20.1: Is, of nothing, of one octet and of more, with each first octet.
func TestIs(t *testing.T) {
	if audio.Is(nil) || audio.Is([]byte{}) {
		t.Errorf("nothing is")
	}
	for first := range 256 {
		want := 128 <= first && first <= 191
		for _, n := range []int{0, 1, 2, 11, 12, 1199, 1200, 70000} {
			for _, rest := range []byte{0, 128, 255} {
				b := append([]byte{byte(first)}, bytes.Repeat([]byte{rest}, n)...)
				if got := audio.Is(b); got != want {
					t.Errorf("Is of %d and %d times %d is %v", first, n, rest, got)
				}
			}
		}
	}
	if audio.Is([]byte{1, 2, 128}[:2]) {
		t.Errorf("what stands behind is looked at")
	}
}

// P20.1: Encode of each field at its edges, and Decode back.
func TestThereAndBack(t *testing.T) {
	for _, p := range edges() {
		b, err := audio.Encode(p)
		if err != api.OK || !bytes.Equal(b, said(p)) {
			t.Fatalf("Encode(%s) is %.20v, %v", told(p), b, err)
		}
		back, err := audio.Decode(b)
		if err != api.OK || !samePackets(back, p) {
			t.Fatalf("Decode of %s is %s, %v", told(p), told(back), err)
		}
		if !audio.Is(b) {
			t.Fatalf("Is of %s is false", told(p))
		}
	}
}

// P20.1: each octet behind the first one may be any.
func TestDecodeAll(t *testing.T) {
	draw := rand.New(rand.NewSource(201))
	for range 20000 {
		b := make([]byte, 12+draw.Intn(30))
		draw.Read(b)
		b[0] = 128
		p, err := audio.Decode(b)
		if err != api.OK || !bytes.Equal(said(p), b) || p.Kind > 127 {
			t.Fatalf("Decode(%v) is %s, %v", b, told(p), err)
		}
		if again, err := audio.Encode(p); err != api.OK || !bytes.Equal(again, b) {
			t.Fatalf("Encode(%s) is %v, %v", told(p), again, err)
		}
	}
}

// P20.1: Encode of what has no form, both faults at once among them.
func TestEncodeRefuses(t *testing.T) {
	for want, l := range refused {
		for _, p := range l {
			if b, err := audio.Encode(p); err != want || len(b) != 0 {
				t.Errorf("Encode(%s) is %d octets, %v, want %v", told(p), len(b), err, want)
			}
		}
	}
	for kind := range 256 {
		want := api.OK
		if kind > 127 {
			want = api.ErrArg
		}
		for _, marker := range []bool{false, true} {
			if _, err := audio.Encode(audio.Packet{Marker: marker, Kind: uint8(kind)}); err != want {
				t.Errorf("of the kind %d Encode is %v", kind, err)
			}
		}
	}
}

// P20.1: Decode of each length.
func TestDecodeLengths(t *testing.T) {
	for n := range 1300 {
		want := api.OK
		if n < 12 {
			want = api.ErrShort
		} else if n > 1200 {
			want = api.ErrLarge
		}
		b := bytes.Repeat([]byte{128}, n)
		p, err := audio.Decode(b)
		if err != want {
			t.Errorf("Decode of %d octets is %v, want %v", n, err, want)
		}
		if err != api.OK && !samePackets(p, audio.Packet{}) || err == api.OK && len(p.Data) != n-12 {
			t.Errorf("Decode of %d octets is %s", n, told(p))
		}
	}
}

// P20.1: Decode of each first octet, and of several faults at once.
func TestDecodeFirst(t *testing.T) {
	for first := range 256 {
		for n, fault := range map[int]api.Errno{0: api.ErrShort, 1: api.ErrShort, 11: api.ErrShort, 12: api.OK, 13: api.OK, 1200: api.OK, 1201: api.ErrLarge, 65536: api.ErrLarge, 65536 + 12: api.ErrLarge} {
			b := make([]byte, n)
			if n > 0 {
				b[0] = byte(first)
			}
			want := fault
			if want == api.OK && first != 128 {
				want = api.ErrForm
			}
			if p, err := audio.Decode(b); err != want || err != api.OK && !samePackets(p, audio.Packet{}) {
				t.Errorf("Decode of %d and %d octets is %s, %v, want %v", first, n-1, told(p), err, want)
			}
		}
	}
}

// R3: Encode and Decode change nothing that is handed in, and what they answer is new memory.
func TestOctetsAreNotKept(t *testing.T) {
	for _, p := range edges() {
		data := append(slices.Clone(p.Data), 1, 2, 3, 4)
		whole := slices.Clone(data)
		handed := p
		handed.Data = data[:len(p.Data)]
		b, _ := audio.Encode(handed)
		if !bytes.Equal(data, whole) {
			t.Fatalf("Encode(%s) changes what was handed in", told(p))
		}
		turn(data)
		if !bytes.Equal(b, said(p)) {
			t.Fatalf("Encode(%s) keeps what was handed in", told(p))
		}
		again := slices.Clone(b)
		back, _ := audio.Decode(b)
		if !bytes.Equal(b, again) {
			t.Fatalf("Decode of %s changes what was handed in", told(p))
		}
		turn(b)
		if !samePackets(back, p) {
			t.Fatalf("Decode of %s keeps what was handed in", told(p))
		}
		turn(data)
		turn(back.Data)
		if !bytes.Equal(data, whole) || !bytes.Equal(b[:len(again)], turned(again)) {
			t.Fatalf("of %s: turning what was told changes what was handed in", told(p))
		}
	}
}

// turned is a copy of octets, each of them turned.
func turned(b []byte) []byte {
	b = slices.Clone(b)
	turn(b)
	return b
}
