package tlv_test

import (
	"bytes"
	"math/rand"
	"slices"
	"testing"

	"bollard/api"
	"bollard/tlv"
)

// kinds are the lowest and the highest kinds, those at each of the two highest bits, and ordinary ones.
var kinds = []uint16{0, 1, 7, 255, 256, 258, 16383, 16384, 32767, 32768, 49151, 49152, 65280, 65534, 65535}

// sizes are those of a value that may be: none, one to five and a few more, those at which the length's lower octet goes round, and the greatest.
var sizes = []int{0, 1, 2, 3, 4, 5, 6, 7, 8, 9, 250, 251, 252, 253, 254, 255, 256, 257, 1020, 1196, 1197, 1198, 1199, 1200}

// value are n octets, none of them 0, so that none is like those that fill up.
func value(n int) []byte {
	v := make([]byte, n)
	for i := range v {
		v[i] = byte(i%255 + 1)
	}
	return v
}

// params are n parameters, whose kinds and sizes are not all the same.
func params(n int) []api.Param {
	l := make([]api.Param, n)
	for i := range l {
		l[i] = api.Param{Kind: uint16(i * 2049), V: value(i % 6)}
	}
	return l
}

// rough is a parameter as octets, whatever its length says, and whatever fills it up.
func rough(kind uint16, length int, behind ...byte) []byte {
	return append([]byte{byte(kind >> 8), byte(kind), byte(length >> 8), byte(length)}, behind...)
}

// wordOfEncode says P6.1 octet for octet.
func wordOfEncode(l []api.Param) ([]byte, api.Errno) {
	if len(l) > 32 {
		return nil, api.ErrLarge
	}
	var out []byte
	for _, p := range l {
		if len(p.V) > 1200 {
			return nil, api.ErrLarge
		}
		out = append(out, rough(p.Kind, 4+len(p.V), p.V...)...)
		for len(out)%4 != 0 {
			out = append(out, 0)
		}
	}
	return out, api.OK
}

// wordOfDecode says P6.2 by places in b.
func wordOfDecode(b []byte) ([]api.Param, api.Errno) {
	var l []api.Param
	for at := 0; at < len(b); {
		if len(l) == 32 {
			return nil, api.ErrLarge
		}
		if at+4 > len(b) {
			return nil, api.ErrShort
		}
		length := int(b[at+2])*256 + int(b[at+3])
		if length < 4 {
			return nil, api.ErrForm
		}
		if length > 1204 {
			return nil, api.ErrLarge
		}
		end := at + length
		next := (end + 3) / 4 * 4
		if next > len(b) {
			return nil, api.ErrShort
		}
		if !bytes.Equal(b[end:next], make([]byte, next-end)) {
			return nil, api.ErrForm
		}
		l = append(l, api.Param{Kind: uint16(b[at])*256 + uint16(b[at+1]), V: b[at+4 : end]})
		at = next
	}
	return l, api.OK
}

// alike tells that two lists have the same kinds and values.
func alike(a, b []api.Param) bool {
	return slices.EqualFunc(a, b, func(p, q api.Param) bool { return p.Kind == q.Kind && bytes.Equal(p.V, q.V) })
}

// copied are parameters in memory of their own.
func copied(l []api.Param) []api.Param {
	out := slices.Clone(l)
	for i := range out {
		out[i].V = bytes.Clone(out[i].V)
	}
	return out
}

// checkEncode asks what parameters are as octets; beside an error there are none, and what is handed in stays.
func checkEncode(t *testing.T, what string, l []api.Param, want []byte, wantErr api.Errno) {
	t.Helper()
	before := copied(l)
	got, err := tlv.Encode(l)
	if err != wantErr || !bytes.Equal(got, want) {
		t.Errorf("%s: Encode of %d is %d octets (%v), want %d (%v)", what, len(l), len(got), err, len(want), wantErr)
	}
	if err != api.OK && got != nil {
		t.Errorf("%s: Encode is %v beside an error", what, got)
	}
	if !alike(l, before) {
		t.Errorf("%s: Encode changed what was handed in", what)
	}
}

// checkDecode asks what octets are as parameters; beside an error there are none, and what is handed in stays.
func checkDecode(t *testing.T, what string, b []byte, want []api.Param, wantErr api.Errno) {
	t.Helper()
	before := bytes.Clone(b)
	got, err := tlv.Decode(b)
	if err != wantErr || !alike(got, want) {
		t.Errorf("%s: Decode of %d octets is %d parameters (%v), want %d (%v)", what, len(b), len(got), err, len(want), wantErr)
	}
	if err != api.OK && got != nil {
		t.Errorf("%s: Decode is %v beside an error", what, got)
	}
	if !bytes.Equal(b, before) {
		t.Errorf("%s: Decode changed what was handed in", what)
	}
}

// checkError asks that octets are none, for a reason.
func checkError(t *testing.T, what string, b []byte, want api.Errno) {
	t.Helper()
	checkDecode(t, what, b, nil, want)
}

// drawnParams are up to 40 parameters, of which one may be too long.
func drawnParams(draw *rand.Rand) []api.Param {
	l := make([]api.Param, draw.Intn(41))
	for i := range l {
		n := draw.Intn(12)
		if draw.Intn(60) == 0 {
			n = 1196 + draw.Intn(8)
		}
		l[i] = api.Param{Kind: uint16(draw.Uint32()), V: make([]byte, n)}
		draw.Read(l[i].V)
	}
	return l
}
