package sfu_test

import (
	"fmt"
	"slices"
	"testing"

	"bollard/api"
	"bollard/assoc"
	"bollard/audio"
	"bollard/crc"
	"bollard/dcep"
	"bollard/packet"
	"bollard/sfu"
)

// outside are parties that no server has a place for.
var outside = []int{-1, -2, 16, 17, 64, 255, 256, 1 << 32, -1 << 32, 1<<32 + 1, least, least + 1, greatest, greatest - 1}

// sounding are octets of sound.
func sounding(t *testing.T, p audio.Packet) []byte {
	t.Helper()
	b, err := audio.Encode(p)
	if err != api.OK {
		t.Fatalf("Encode is %v", err)
	}
	return b
}

// invitation is a packet of an Init, from a party.
func invitation(t *testing.T, tag uint32) []byte {
	t.Helper()
	b, err := packet.Encode(crc.Table(), api.Packet{From: 6000, To: 5000, Chunks: []api.Chunk{{Kind: api.Init, A: tag, B: 65536, Out: 8, In: 8, Ppid: tag}}})
	if err != api.OK {
		t.Fatalf("Encode is %v", err)
	}
	return b
}

// noSound are octets that begin as sound does and are none, by why.
func noSound() map[api.Errno][][]byte {
	return map[api.Errno][][]byte{
		api.ErrShort: {{128}, {128, 0}, {191}, make128(11), {129, 9, 9, 9}},
		api.ErrForm:  {append([]byte{129}, make128(11)...), append([]byte{191}, make128(1199)...), append([]byte{144}, make128(20)...)},
		api.ErrLarge: {make128(1201), make128(70000), append([]byte{129}, make128(1200)...)},
	}
}

// make128 are so many octets, all 128.
func make128(n int) []byte { return slices.Repeat([]byte{128}, n) }

// noPackets are octets that are neither sound nor a packet, by why.
func noPackets(t *testing.T) map[api.Errno][][]byte {
	t.Helper()
	init := invitation(t, 9)
	turned := slices.Clone(init)
	turned[20] ^= 1
	other, _ := packet.Encode(crc.Table(), api.Packet{From: 6001, To: 5000, Chunks: []api.Chunk{{Kind: api.Init, A: 1, Out: 1, In: 1}}})
	back, _ := packet.Encode(crc.Table(), api.Packet{From: 5000, To: 6000, Chunks: []api.Chunk{{Kind: api.Init, A: 1, Out: 1, In: 1}}})
	strange, _ := packet.Encode(crc.Table(), api.Packet{From: 6000, To: 5000, Tag: 99999, Chunks: []api.Chunk{{Kind: api.Data, Flags: 3, Data: []byte("x")}}})
	abort, _ := packet.Encode(crc.Table(), api.Packet{From: 6000, To: 5000, Tag: 99999, Chunks: []api.Chunk{{Kind: api.Abort, Flags: 1}}})
	cookie, _ := packet.Encode(crc.Table(), api.Packet{From: 6000, To: 5000, Tag: 9, Chunks: []api.Chunk{{Kind: api.CookieEcho, Data: append(make([]byte, 56), "BOL1"...)}}})
	return map[api.Errno][][]byte{
		api.ErrShort:  {nil, {}, {0}, {127}, {192}, {255}, init[:15], make([]byte, 15)},
		api.ErrLarge:  {make([]byte, 1201), make([]byte, 70000)},
		api.ErrSum:    {make([]byte, 16), init[:16], init[:len(init)-1], append(slices.Clone(init), 0), turned},
		api.ErrArg:    {other, back},
		api.ErrTag:    {strange, abort},
		api.ErrCookie: {cookie},
	}
}

// P21.2, P1: of no place, and of nil, all octets are ErrArg.
func TestHearOfNoPlace(t *testing.T) {
	c := config()
	c.Parties = 0
	h := newHost(t, c)
	var none *sfu.Server
	for _, b := range [][]byte{nil, {0}, {128}, make128(11), make128(12), make128(1201), invitation(t, 9), make([]byte, 1300)} {
		for _, party := range append(outside, 0, 5, 15) {
			want(t, none.Hear(party, b, 0, 1), api.ErrArg)
			want(t, new(sfu.Server).Hear(party, b, 0, 1), api.ErrArg)
			if slices.Contains(outside, party) {
				want(t, h.hear(party, b, 0), api.ErrArg)
			}
		}
	}
	c.Parties = 3
	h = newHost(t, c)
	want(t, h.hear(3, invitation(t, 9), 0), api.ErrArg)
	want(t, h.hear(2, invitation(t, 9), 0), api.OK)
}

// soundIn asks for the error of sound that is sound, and for that of octets that are none, which comes first.
func soundIn(t *testing.T, h *host, party int, err api.Errno) {
	t.Helper()
	for _, b := range [][]byte{sounding(t, audio.Packet{}), make128(12), make128(1200), sounding(t, audio.Packet{Marker: true, Kind: 127, Seq: 9, Stamp: 8, Source: 7, Data: []byte("x")})} {
		want(t, h.hear(party, b, 0), err)
	}
	for err, l := range noSound() {
		for _, b := range l {
			want(t, h.hear(party, b, 0), err)
		}
	}
}

// P21.2: sound is refused as audio.Decode refuses it; then, unless the party's association is Open, by ErrState: then nothing is handed on.
func TestSoundByState(t *testing.T) {
	h := newHost(t, config())
	other := comes(t, h, 1)
	soundIn(t, h, 0, api.ErrState)
	x := newHand(t, 6000, 5000, 100)
	x.a.Start(0, 9)
	bring(t, 0, x, seat{h, 0})
	soundIn(t, h, 0, api.ErrState)
	h.are(0, assoc.Closed, 0)
	exchange(t, 0, x, seat{h, 0})
	h.are(0, assoc.Open, 0)
	soundIn(t, h, 0, api.OK)
	h.are(0, assoc.Open, 3) // of the sound 0, 32896 and 32896 of one Source, and of another one
	exchange(t, 0, other, seat{h, 1})
	equal(t, "sounds", len(other.sounds), 3)
	x.a.Close(0)
	bring(t, 0, x, seat{h, 0})
	h.are(0, assoc.ShutHeard, 0)
	soundIn(t, h, 0, api.ErrState)
	h.tell(0, 0)
	h.are(0, assoc.ShutAcked, 0)
	soundIn(t, h, 0, api.ErrState)
}

// P21.2: sound of a party that is Open is handed on to all others that are open, as it was, from their own first number on.
func TestSoundHandedOn(t *testing.T) {
	c := config()
	c.Parties = 4
	h := newHost(t, c)
	l := []*hand{comes(t, h, 0), comes(t, h, 1), comes(t, h, 2)}
	for i := range 3 {
		p := audio.Packet{Marker: i == 1, Kind: uint8(i), Seq: uint16(65535 + 2*i), Stamp: 5, Source: 77, Data: []byte{byte(i)}}
		want(t, h.hear(1, sounding(t, p), 0), api.OK)
	}
	h.are(1, assoc.Open, 6)
	want(t, h.hear(2, sounding(t, audio.Packet{Seq: 9}), 0), api.OK)
	h.are(1, assoc.Open, 8)
	for party, x := range l {
		exchange(t, 0, x, seat{h, party})
		var of1 []audio.Packet
		for _, p := range x.sounds {
			if p.Source == 2 {
				of1 = append(of1, p)
			}
		}
		n := map[int]int{0: 3, 1: 0, 2: 3}[party]
		equal(t, "packets", len(of1), n)
		for i, p := range of1 {
			if !samePackets(p, audio.Packet{Marker: i == 1, Kind: uint8(i), Seq: uint16(2 * i), Stamp: 5, Source: 2, Data: []byte{byte(i)}}) {
				t.Errorf("party %d hears %v", party, p)
			}
		}
	}
	h.are(1, assoc.Open, 0)
	equal(t, "the place that nobody has", len(h.tell(3, 0)), 0)
}

// P21.2, W6: no more sound waits than there is room for; what is lost of it is no item that is Lost.
func TestSoundHasNoMoreRoom(t *testing.T) {
	h := newHost(t, config())
	x := all(t, h)
	for i := range 7 {
		want(t, h.hear(0, sounding(t, audio.Packet{Seq: uint16(i)}), 0), api.OK)
	}
	h.are(1, assoc.Open, 8)
	equal(t, "Lost", h.s.Lost(1), 0)
	exchange(t, 0, x[1], seat{h, 1})
	var seqs []uint16
	for _, p := range x[1].sounds {
		seqs = append(seqs, p.Seq)
	}
	equal(t, "the numbers", seqs, []uint16{0, 1, 2, 3})
	h.are(1, assoc.Open, 4)
}

// P21.2, W4: octets that are no packet, or a stranger's, change nothing, and nothing is kept of them: neither of a place that is closed, nor of one that is open.
func TestStrangers(t *testing.T) {
	h, l := listening(t, 0, 0)
	l[0].says(0, "x")
	exchange(t, 0, l[0], seat{h, 0})
	c := config()
	c.Parties = 4
	vacant := newHost(t, c)
	for err, list := range noPackets(t) {
		for _, b := range list {
			for range 3 {
				for party := range 4 {
					want(t, vacant.hear(party, b, 0), err)
					equal(t, "told", len(vacant.tell(party, 0)), 0)
				}
				want(t, h.hear(1, b, 0), err)
				h.are(1, assoc.Open, 1)
			}
		}
	}
	l[0].says(0, "y")
	exchange(t, 0, l[0], seat{h, 0})
	exchange(t, 0, l[1], seat{h, 1})
	l[1].has(text(2, "x"), text(2, "y"))
}

// P21.2, W4: one octet of a packet turned is ErrSum (or no packet at all), wherever it stands, and changes nothing; what is as it was is taken then.
func TestTurnedOctets(t *testing.T) {
	h, l := listening(t, 0, 0)
	l[0].says(0, "x")
	for _, b := range l[0].give(0) {
		for i := range b {
			forged := slices.Clone(b)
			forged[i] ^= 64
			if err := h.hear(0, forged, 0); err != api.ErrSum && err != api.ErrForm && err != api.ErrShort {
				t.Errorf("of the octet %d turned the error is %v", i, err)
			}
			h.are(0, assoc.Open, 0)
		}
		for i := range b {
			if err := h.hear(0, b[:i], 0); err != api.ErrSum && err != api.ErrShort {
				t.Errorf("of %d octets the error is %v", i, err)
			}
		}
		equal(t, "told", len(h.tell(0, 0))+len(h.tell(1, 0)), 0)
		want(t, h.hear(0, b, 0), api.OK)
		h.are(0, assoc.Open, 1)
	}
}

// cookieOf lets a stranger speak to a place up to its cookie, and is the packet that brings that back.
func cookieOf(t *testing.T, h *host, party int, now int) (*hand, []byte) {
	t.Helper()
	x := newHand(t, 6000, 5000, draws(7000+h.next()))
	want(t, x.a.Start(now, x.next()), api.OK)
	bring(t, now, x, seat{h, party})
	for _, b := range h.tell(party, now) {
		x.take(b, now) // what is told to another association is not for it
	}
	l := x.give(now)
	if len(l) != 1 || chunks(t, l)[0].Kind != api.CookieEcho {
		t.Fatalf("there is told %v", chunks(t, l))
	}
	return x, l[0]
}

// P21.2, W4: before a cookie comes back nothing is kept of a place; one that does not fit, is too old or of another place's key does not open it.
func TestCookies(t *testing.T) {
	h := newHost(t, config())
	for range 3 {
		cookieOf(t, h, 0, 1000)
		h.are(0, assoc.Closed, 0)
	}
	_, echo := cookieOf(t, h, 0, 1000)
	want(t, h.hear(0, echo, 999), api.ErrStale)
	want(t, h.hear(0, echo, 61001), api.ErrStale)
	h.are(0, assoc.Closed, 0)
	c := config()
	c.Key = []byte("fedcba9876543210")
	want(t, newHost(t, c).hear(0, echo, 1000), api.ErrCookie)
	want(t, h.hear(0, echo, 61000), api.OK)
	h.are(0, assoc.Open, 0)
	// Another place has the same key: whoever brings its cookie there is let in.
	want(t, h.hear(1, echo, 61000), api.OK)
	h.are(1, assoc.Open, 0)
	c.Key = key()[:15]
	want(t, newHost(t, c).hear(0, invitation(t, 9), 0), api.ErrArg)
}

// P21.2: what is answered is told by the next Tell, once, in order; of more than 64 packets the first ones.
func TestAnswersAtMost(t *testing.T) {
	h := newHost(t, config())
	x := comes(t, h, 0)
	for _, n := range []int{1, 63, 64, 65, 100, 300} {
		var first uint32
		for i := range n {
			if i == 0 {
				first = uint32(h.draws) + 1
			}
			want(t, h.hear(0, invitation(t, 9), 0), api.OK)
		}
		l := chunks(t, h.tell(0, 0))
		equal(t, "packets", len(l), min(n, 64))
		for i, c := range l {
			if c.Kind != api.InitAck || c.A != first+uint32(i) {
				t.Errorf("the packet %d is %v", i, c)
			}
		}
		equal(t, "packets then", len(h.tell(0, 0)), 0)
	}
	// One packet may be answered by many.
	beats := make([]api.Chunk, 20)
	for i := range beats {
		beats[i] = api.Chunk{Kind: api.Heartbeat, Params: []api.Param{{Kind: 1, V: []byte{byte(i)}}}}
	}
	for range 4 {
		want(t, h.hear(0, x.packed(6000, 5000, beats...), 0), api.OK)
	}
	l := chunks(t, h.tell(0, 0))
	equal(t, "packets", len(l), 64)
	for i, c := range l {
		if c.Kind != api.HeartbeatAck || c.Params[0].V[0] != byte(i%20) {
			t.Errorf("the packet %d is %v", i, c)
		}
	}
	equal(t, "packets of another place", len(h.tell(1, 0)), 0)
}

// P21.2: what is answered ahead of an error is told, and what came ahead of it is taken in.
func TestAheadOfAnError(t *testing.T) {
	h, l := listening(t, 0, 0)
	l[0].says(0, "x")
	data := of(chunks(t, l[0].give(0)), api.Data)
	beat := api.Chunk{Kind: api.Heartbeat, Params: []api.Param{{Kind: 1, V: []byte{7}}}}
	wrong := api.Chunk{Kind: api.CookieAck} // in Open it is none
	want(t, h.hear(0, l[0].packed(6000, 5000, append(data, beat, wrong, beat)...), 0), api.ErrState)
	h.are(0, assoc.Open, 1)
	told := chunks(t, h.tell(0, 0))
	equal(t, "answers", len(of(told, api.HeartbeatAck)), 1)
	equal(t, "Sacks", len(of(told, api.Sack)), 1)
}

// P21.2: as soon as its association is Open a party is in, whatever stands behind the cookie: it listens, may speak, and what it says is published.
func TestJoinsAsSoonAsOpen(t *testing.T) {
	h := newHost(t, config())
	other := comes(t, h, 1)
	other.opens(0, dcep.Opening{Label: "a"})
	exchange(t, 0, other, seat{h, 1})
	x, echo := cookieOf(t, h, 0, 0)
	want(t, h.hear(1, sounding(t, audio.Packet{Seq: 1}), 0), api.OK)
	h.are(0, assoc.Closed, 0)
	want(t, h.hear(0, echo, 0), api.OK)
	h.are(0, assoc.Open, 0)
	want(t, h.hear(1, sounding(t, audio.Packet{Seq: 2}), 0), api.OK)
	h.are(0, assoc.Open, 1)
	want(t, h.hear(0, sounding(t, audio.Packet{Seq: 1}), 0), api.OK)
	h.are(0, assoc.Open, 2)
	bring(t, 0, seat{h, 0}, x)
	equal(t, "sounds", len(x.sounds), 1)

	// All in one packet: the cookie, an opening, and what is said on it.
	y, echo := cookieOf(t, h, 2, 0)
	first, _ := y.a.Tags()
	l := append(chunks(t, [][]byte{echo}),
		api.Chunk{Kind: api.Data, Flags: 3, A: first, Ppid: 50, Data: encoded(t, dcep.Opening{Label: "a"})},
		api.Chunk{Kind: api.Data, Flags: 3, A: first + 1, In: 1, Ppid: 51, Data: []byte("x")},
		api.Chunk{Kind: api.CookieAck})
	want(t, h.hear(2, y.packed(6000, 5000, l...), 0), api.ErrState)
	h.are(2, assoc.Open, 2) // the sound and the item that wait for party 1
	exchange(t, 0, other, seat{h, 1})
	other.has(text(0, "x"))
}

// ends are the ways in which an association of a place may be done, and what is answered then.
var ends = map[string]struct {
	end     func(t *testing.T, h *host, x *hand)
	answers []uint8
}{
	"closed by the other side": {func(t *testing.T, h *host, x *hand) {
		t.Helper()
		x.a.Close(0)
		exchange(t, 0, x, seat{h, 1})
	}, nil},
	"aborted": {func(t *testing.T, h *host, x *hand) {
		t.Helper()
		for _, b := range x.a.Abort() {
			want(t, h.hear(1, b, 0), api.OK)
		}
	}, nil},
	"both close": {func(t *testing.T, h *host, x *hand) {
		t.Helper()
		x.a.Close(0)
		bring(t, 0, x, seat{h, 1})
		h.tell(1, 0)
		want(t, h.hear(1, x.packed(6000, 5000, api.Chunk{Kind: api.ShutdownAck}), 0), api.OK)
	}, []uint8{api.ShutdownDone}},
	"answered ahead of the end": {func(t *testing.T, h *host, x *hand) {
		t.Helper()
		want(t, h.hear(1, x.packed(6000, 5000, api.Chunk{Kind: api.Heartbeat}, api.Chunk{Kind: api.Abort}), 0), api.OK)
	}, []uint8{api.HeartbeatAck}},
}

// full is a server for whose party 1 items and sound wait, one item for room; a subscription of it has failed, and it lost an item.
func full(t *testing.T) (*host, []*hand) {
	t.Helper()
	h, l := listening(t, 0, 0)
	stuff(t, h, l)
	l[1].opens(4, dcep.Opening{Label: "b", Kind: 1})
	l[1].opens(6, dcep.Opening{Label: "c"})
	bring(t, 0, l[1], seat{h, 1})
	l[0].opens(2, dcep.Opening{Label: "b"})
	for i := range 7 {
		l[0].says(2, fmt.Sprint(i))
		want(t, h.hear(0, sounding(t, audio.Packet{Seq: uint16(i)}), 0), api.OK)
	}
	l[0].says(0, "x")
	exchange(t, 0, l[0], seat{h, 0})
	h.tell(1, 0)
	l[0].says(0, "y")
	exchange(t, 0, l[0], seat{h, 0})
	l[0].says(0, "z")
	exchange(t, 0, l[0], seat{h, 0})
	for i := range 7 {
		want(t, h.hear(0, sounding(t, audio.Packet{Seq: uint16(10 + i)}), 0), api.OK)
	}
	if h.s.Held() < 8 || !h.s.Failed(1, "a") || h.s.Lost(1) == 0 {
		t.Fatalf("Held is %d, Failed %v, Lost %d", h.s.Held(), h.s.Failed(1, "a"), h.s.Lost(1))
	}
	return h, l
}

// isNew asks that a place is as one that nobody has come to, and that a party that comes then has what it needs.
func isNew(t *testing.T, h *host, l []*hand) {
	t.Helper()
	if h.s.Failed(1, "a") || h.s.Lost(1) != 0 {
		t.Fatalf("Failed is %v, Lost %d", h.s.Failed(1, "a"), h.s.Lost(1))
	}
	x := l[1]
	if h.s.State(1) != assoc.Open {
		x = comes(t, h, 1)
	}
	for stream := range uint16(4) {
		x.opens(2*stream, dcep.Opening{Label: []string{"b", "a", "chat", ""}[stream]})
	}
	exchange(t, 0, x, seat{h, 1})
	isAnswered(t, x, 0, 2, 4, 6)
	x.sounds = nil
	l[0].says(0, "anew")
	l[0].says(2, "b")
	exchange(t, 0, l[0], seat{h, 0})
	want(t, h.hear(0, sounding(t, audio.Packet{Seq: 900}), 0), api.OK)
	exchange(t, 0, x, seat{h, 1})
	x.has(text(2, "anew"), text(0, "b"))
	if len(x.sounds) != 1 || x.sounds[0].Seq != 0 { // no speaker was known any more
		t.Fatalf("there sounds %v", x.sounds)
	}
}

// P21.2: as soon as an association is Done its party leaves and listens no more, and its place has a new one, closed, and a new table; what was answered is told still.
func TestDone(t *testing.T) {
	for name, c := range ends {
		h, l := listening(t, 0, 0)
		l[0].opens(2, dcep.Opening{Label: "b"})
		for range 6 {
			l[0].says(0, "x")
			want(t, h.hear(0, sounding(t, audio.Packet{Seq: uint16(h.next())}), 0), api.OK)
		}
		exchange(t, 0, l[0], seat{h, 0})
		if !h.s.Failed(1, "a") {
			t.Fatal("it has not failed")
		}
		held := h.s.Held()
		c.end(t, h, l[1])
		if h.s.State(1) != assoc.Closed || h.s.Held() > held-4 {
			t.Fatalf("%s: State is %d, Held %d", name, h.s.State(1), h.s.Held())
		}
		held = h.s.Held()
		want(t, h.hear(0, sounding(t, audio.Packet{Seq: 2}), 0), api.OK)
		l[0].says(0, "x")
		exchange(t, 0, l[0], seat{h, 0})
		equal(t, "Held", h.s.Held(), held) // party 2 has no room for more
		want(t, h.hear(1, sounding(t, audio.Packet{}), 0), api.ErrState)
		var kinds []uint8
		for _, c := range chunks(t, h.tell(1, 0)) {
			kinds = append(kinds, c.Kind)
		}
		if !slices.Equal(kinds, c.answers) {
			t.Fatalf("%s: there is told %v, want %v", name, kinds, c.answers)
		}
		equal(t, "packets then", len(h.tell(1, 0)), 0)
		isNew(t, h, l)
	}
}

// P21.2: what waits for room, too, goes away with its party.
func TestDoneWithoutRoom(t *testing.T) {
	for name, c := range ends {
		if name == "closed by the other side" || name == "both close" {
			continue // as long as something is to come, that does not end
		}
		h, l := full(t)
		c.end(t, h, l[1])
		h.are(1, assoc.Closed, 4) // what sounds to party 2
		h.tell(1, 0)
		isNew(t, h, l)
	}
}

// P21.2: what came ahead of the end, in the same packet, is published.
func TestSaidAheadOfTheEnd(t *testing.T) {
	h, l := listening(t, 0, 0)
	l[0].says(0, "last")
	data := of(chunks(t, l[0].give(0)), api.Data)
	want(t, h.hear(0, l[0].packed(6000, 5000, append(data, api.Chunk{Kind: api.Abort})...), 0), api.OK)
	h.are(0, assoc.Closed, 1)
	exchange(t, 0, l[1], seat{h, 1})
	l[1].has(text(2, "last"))
}

// P21.2: a party that opens, says something and ends, all in one packet, was in: what it said is published.
func TestComesAndGoes(t *testing.T) {
	h := newHost(t, config())
	other := comes(t, h, 1)
	other.opens(0, dcep.Opening{Label: "a"})
	exchange(t, 0, other, seat{h, 1})
	other.has()
	for _, last := range []uint8{api.Abort, api.Shutdown} {
		x, echo := cookieOf(t, h, 0, 0)
		first, _ := x.a.Tags()
		l := append(chunks(t, [][]byte{echo}),
			api.Chunk{Kind: api.Data, Flags: 3, A: first, Ppid: 50, Data: encoded(t, dcep.Opening{Label: "a"})},
			api.Chunk{Kind: api.Data, Flags: 3, A: first + 1, In: 1, Ppid: 51, Data: []byte("x")},
			api.Chunk{Kind: last})
		want(t, h.hear(0, x.packed(6000, 5000, l...), 0), api.OK)
		h.are(0, map[uint8]int{api.Abort: assoc.Closed, api.Shutdown: assoc.ShutHeard}[last], 1)
		exchange(t, 0, other, seat{h, 1})
		other.has(text(0, "x"))
	}
	want(t, h.hear(1, sounding(t, audio.Packet{}), 0), api.OK)
	h.are(0, assoc.ShutHeard, 1) // it listens until it is Done
}

// P21.2: Tick goes on in all places, and what follows is done: one that nothing comes from any more is Done.
func TestTickDone(t *testing.T) {
	h, l := full(t)
	now := 0
	for range 11 {
		h.are(1, assoc.Open, h.s.Held())
		now += 60000
		h.tick(now)
		h.tell(1, now)
		exchange(t, now, l[0], seat{h, 0})
		exchange(t, now, l[2], seat{h, 2})
	}
	h.are(1, assoc.Closed, 0)
	if h.s.Failed(1, "a") || h.s.Lost(1) != 0 {
		t.Errorf("Failed is %v, Lost %d", h.s.Failed(1, "a"), h.s.Lost(1))
	}
	h.are(0, assoc.Open, 0)
	h.are(2, assoc.Open, 0)
	isNew(t, h, l)
}

// P21.2: an association that is made anew: its party leaves ahead of that, joins and listens again, with a new table, and nothing waits for it.
func TestMadeAnew(t *testing.T) {
	h, l := full(t)
	x, echo := cookieOf(t, h, 1, 0)
	want(t, h.hear(0, sounding(t, audio.Packet{Seq: 99}), 0), api.OK)
	if h.s.Held() < 9 || !h.s.Failed(1, "a") {
		t.Fatal("nothing is made anew before the cookie comes back")
	}
	want(t, h.hear(1, echo, 0), api.OK)
	h.are(1, assoc.Open, 4)
	bring(t, 0, seat{h, 1}, x)
	equal(t, "State", x.a.State(), assoc.Open)
	l[1] = x
	x.has()
	isNew(t, h, l)
	// The same cookie once more makes nothing anew.
	l[0].says(0, "stays")
	exchange(t, 0, l[0], seat{h, 0})
	held := h.s.Held()
	want(t, h.hear(1, echo, 0), api.OK)
	h.are(1, assoc.Open, held)
	exchange(t, 0, x, seat{h, 1})
	x.has(text(2, "stays"))
}

// P21.2: streams of an association that is no more are not restarted in the one that is made anew.
func TestMadeAnewForgetsRestarts(t *testing.T) {
	h, l := listening(t, 0, 0)
	l[1].opens(0, dcep.Opening{Label: "b"})
	exchange(t, 0, l[1], seat{h, 1})
	l[1].ends(h, 1, 2)
	l[1].ends(h, 1, 0) // the server's own one of this stream waits for that of the other one
	x, echo := cookieOf(t, h, 1, 0)
	want(t, h.hear(1, echo, 0), api.OK)
	bring(t, 0, seat{h, 1}, x)
	x.opens(0, dcep.Opening{Label: "b"})
	exchange(t, 0, x, seat{h, 1})
	isAnswered(t, x, 0)
	equal(t, "Restarted", len(x.restarted), 0)
}
