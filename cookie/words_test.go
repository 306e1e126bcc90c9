package cookie_test

import (
	"bytes"
	"encoding/binary"
	"math"
	"math/big"
	"math/rand"
	"slices"
	"testing"

	"bollard/api"
	"bollard/cookie"
	"bollard/sip"
)

// most is the greatest Made or Life.
const most = 1 << 48

// rising is the key 0, 1, .. 15.
func rising() []byte { return []byte{0, 1, 2, 3, 4, 5, 6, 7, 8, 9, 10, 11, 12, 13, 14, 15} }

// drawnOctets are n octets.
func drawnOctets(draw *rand.Rand, n int) []byte {
	b := make([]byte, n)
	draw.Read(b)
	return b
}

// keys are keys that may be.
func keys() [][]byte {
	draw := rand.New(rand.NewSource(90))
	return [][]byte{rising(), make([]byte, 16), bytes.Repeat([]byte{255}, 16), []byte("0123456789abcdef"), drawnOctets(draw, 16), drawnOctets(draw, 40)[7:23]}
}

// badKeys are keys that may not be, ahead of them those that are nearest to one.
func badKeys() [][]byte {
	out := [][]byte{rising()[:15], rising()[1:], append(rising(), 16), make([]byte, 15), make([]byte, 17), nil, {}, rising()[:0]}
	for _, n := range []int{1, 8, 12, 24, 32, 48, 256, 272, 65552} {
		out = append(out, make([]byte, n))
	}
	return out
}

// edges are times at which a bound or a half of a number ends.
var edges = []int{math.MinInt, -most, -1 << 32, -1, 0, 1, 255, 256, 1<<31 - 1, 1 << 31, 1<<32 - 1, 1 << 32, 1<<32 + 1, 1<<47 - 1, 1 << 47, most - 1, most, most + 1, most + 1<<32, 1 << 49, 1 << 62, math.MaxInt}

// ordinary is a state each of whose numbers is another one, each octet too.
func ordinary() cookie.State {
	return cookie.State{
		Made: 0x010203040506, Life: 0x0708090a0b0c,
		Tag: 0x0d0e0f10, Peer: 0x11121314, First: 0x15161718, PeerFirst: 0x191a1b1c, Room: 0x1d1e1f20,
		Ties: [2]uint32{0x21222324, 0x25262728}, Out: 0x292a, In: 0x2b2c,
	}
}

// drawnState is a state that may be.
func drawnState(draw *rand.Rand) cookie.State {
	s := cookie.State{
		Made: draw.Intn(1 + 1<<draw.Intn(49)), Life: draw.Intn(1 + 1<<draw.Intn(49)),
		Tag: draw.Uint32(), Peer: draw.Uint32(), First: draw.Uint32(), PeerFirst: draw.Uint32(), Room: draw.Uint32(),
		Ties: [2]uint32{draw.Uint32(), draw.Uint32()}, Out: uint16(draw.Uint32()), In: uint16(draw.Uint32()),
	}
	for _, n := range []*uint32{&s.Tag, &s.Peer, &s.First, &s.PeerFirst, &s.Room, &s.Ties[0], &s.Ties[1]} {
		*n = []uint32{*n, *n, 0, 1<<32 - 1}[draw.Intn(4)]
	}
	return s
}

// places says P9.1's order: each number, and between which octets it stands.
var places = []struct {
	name     string
	from, to int
	number   func(s *cookie.State) any
}{
	{"Made", 0, 8, func(s *cookie.State) any { return &s.Made }},
	{"Life", 8, 16, func(s *cookie.State) any { return &s.Life }},
	{"Tag", 16, 20, func(s *cookie.State) any { return &s.Tag }},
	{"Peer", 20, 24, func(s *cookie.State) any { return &s.Peer }},
	{"First", 24, 28, func(s *cookie.State) any { return &s.First }},
	{"PeerFirst", 28, 32, func(s *cookie.State) any { return &s.PeerFirst }},
	{"Room", 32, 36, func(s *cookie.State) any { return &s.Room }},
	{"the first of Ties", 36, 40, func(s *cookie.State) any { return &s.Ties[0] }},
	{"the second of Ties", 40, 44, func(s *cookie.State) any { return &s.Ties[1] }},
	{"Out", 44, 46, func(s *cookie.State) any { return &s.Out }},
	{"In", 46, 48, func(s *cookie.State) any { return &s.In }},
}

// laid are the 48 octets of a state, whether it may be or not: of a time below 0 those of the number that goes round.
func laid(s cookie.State) []byte {
	b := make([]byte, 48)
	for _, p := range places {
		switch n := p.number(&s).(type) {
		case *int:
			binary.BigEndian.PutUint64(b[p.from:p.to], uint64(*n))
		case *uint32:
			binary.BigEndian.PutUint32(b[p.from:p.to], *n)
		case *uint16:
			binary.BigEndian.PutUint16(b[p.from:p.to], *n)
		}
	}
	return b
}

// timed are the 48 octets of the ordinary state, but for its times, which may be too great for an int.
func timed(made, life uint64) []byte {
	b := laid(ordinary())
	binary.BigEndian.PutUint64(b[0:8], made)
	binary.BigEndian.PutUint64(b[8:16], life)
	return b
}

// sealed are octets, and behind them their code and "BOL1".
func sealed(key, body []byte) []byte {
	code, _ := sip.Code(key, body)
	b := slices.Clone(body)
	for i := range 8 {
		b = append(b, byte(code>>(56-8*i)))
	}
	return append(b, 66, 79, 76, 49)
}

// wordOfEncode says P9.1.
func wordOfEncode(key []byte, s cookie.State) ([]byte, bool) {
	if len(key) != 16 || s.Made < 0 || s.Made > most || s.Life < 0 || s.Life > most {
		return nil, false
	}
	return sealed(key, laid(s)), true
}

// wordOfDecode says P9.2.
func wordOfDecode(key, b []byte) (cookie.State, api.Errno) {
	if len(key) != 16 {
		return cookie.State{}, api.ErrArg
	}
	if len(b) < 60 {
		return cookie.State{}, api.ErrShort
	}
	if len(b) > 60 || string(b[len(b)-4:]) != "BOL1" {
		return cookie.State{}, api.ErrForm
	}
	if !bytes.Equal(sealed(key, b[:48]), b) {
		return cookie.State{}, api.ErrCookie
	}
	var s cookie.State
	for _, p := range places {
		x := new(big.Int).SetBytes(b[p.from:p.to])
		switch n := p.number(&s).(type) {
		case *int:
			if x.Cmp(big.NewInt(most)) > 0 {
				return cookie.State{}, api.ErrForm
			}
			*n = int(x.Int64())
		case *uint32:
			*n = uint32(x.Uint64())
		case *uint16:
			*n = uint16(x.Uint64())
		}
	}
	return s, api.OK
}

// wordOfCheck says P9.3, by numbers that can not go round.
func wordOfCheck(key, b []byte, now int) (cookie.State, api.Errno) {
	s, err := wordOfDecode(key, b)
	if err != api.OK {
		return cookie.State{}, err
	}
	made, at := big.NewInt(int64(s.Made)), big.NewInt(int64(now))
	end := new(big.Int).Add(made, big.NewInt(int64(s.Life)))
	if at.Cmp(made) < 0 || at.Cmp(end) > 0 {
		return cookie.State{}, api.ErrStale
	}
	return s, api.OK
}

// checkUnchanged asks that what was handed in stands as it stood.
func checkUnchanged(t *testing.T, what string, now, before []byte) {
	t.Helper()
	if !bytes.Equal(now, before) {
		t.Errorf("%s: what was handed in, %v, became %v", what, before, now)
	}
}

// checkEncode asks that a state is as octets what the chapter's words have, and answers them.
func checkEncode(t *testing.T, what string, key []byte, s cookie.State) []byte {
	t.Helper()
	keyBefore := slices.Clone(key)
	want, wantOk := wordOfEncode(key, s)
	got, ok := cookie.Encode(key, s)
	if ok != wantOk || !bytes.Equal(got, want) {
		t.Errorf("%s: Encode of %+v is %v, %v, want %v, %v", what, s, got, ok, want, wantOk)
	}
	if !ok && got != nil {
		t.Errorf("%s: Encode is %v beside false", what, got)
	}
	checkUnchanged(t, what, key, keyBefore)
	return got
}

// checkNone asks that a state has no octets.
func checkNone(t *testing.T, what string, key []byte, s cookie.State) {
	t.Helper()
	if _, ok := wordOfEncode(key, s); ok {
		t.Errorf("%s: the words tell octets of %+v", what, s)
	}
	checkEncode(t, what, key, s)
}

// checkDecode asks that octets are the state that the chapter's words have, or the error that is wanted.
func checkDecode(t *testing.T, what string, key, b []byte, wantErr api.Errno) {
	t.Helper()
	keyBefore, before := slices.Clone(key), slices.Clone(b)
	want, err := wordOfDecode(key, b)
	if err != wantErr {
		t.Errorf("%s: the words tell %v, want %v", what, err, wantErr)
	}
	got, gotErr := cookie.Decode(key, b)
	if gotErr != wantErr || got != want {
		t.Errorf("%s: Decode of %v is %+v (%v), want %+v (%v)", what, b, got, gotErr, want, wantErr)
	}
	checkUnchanged(t, what, key, keyBefore)
	checkUnchanged(t, what, b, before)
}

// checkCheck asks that octets are, at a time, the state that the chapter's words have, or the error that is wanted.
func checkCheck(t *testing.T, what string, key, b []byte, now int, wantErr api.Errno) {
	t.Helper()
	keyBefore, before := slices.Clone(key), slices.Clone(b)
	want, err := wordOfCheck(key, b, now)
	if err != wantErr {
		t.Errorf("%s: the words tell %v, want %v", what, err, wantErr)
	}
	got, gotErr := cookie.Check(key, b, now)
	if gotErr != wantErr || got != want {
		t.Errorf("%s: Check of %v at %d is %+v (%v), want %+v (%v)", what, b, now, got, gotErr, want, wantErr)
	}
	checkUnchanged(t, what, key, keyBefore)
	checkUnchanged(t, what, b, before)
}
