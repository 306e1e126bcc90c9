package audio_test

import (
	"bytes"
	"fmt"
	"math"
	"slices"
	"testing"

	"bollard/api"
	"bollard/audio"
)

const (
	greatest = math.MaxInt
	least    = math.MinInt
)

// outside are parties that no Forwarder has.
var outside = []int{-1, -2, 16, 17, 18, 64, 255, 256, 1 << 32, -1 << 32, 1<<32 + 1, least, least + 1, greatest, greatest - 1}

// refused are packets that have no form as octets, by why.
var refused = map[api.Errno][]audio.Packet{
	api.ErrArg: {
		{Kind: 128}, {Kind: 129}, {Kind: 255}, {Marker: true, Kind: 128},
		{Kind: 128, Data: make([]byte, 1188)}, {Kind: 128, Data: make([]byte, 1189)}, {Kind: 255, Data: make([]byte, 70000)},
	},
	api.ErrLarge: {
		{Data: make([]byte, 1189)}, {Kind: 127, Data: make([]byte, 1190)}, {Marker: true, Kind: 1, Data: make([]byte, 1200)},
		{Data: make([]byte, 1201)}, {Data: make([]byte, 65536)}, {Data: make([]byte, 65536+5)},
	},
}

// words says the chapter's words plainly: of each listener it writes down all that was ever handed to it, and what it knows of a speaker is looked up there. New numbers do not go round here.
type words struct {
	parties, room int
	here          []place
}

type place struct {
	listens bool
	handed  []one
	waits   []audio.Packet
	lost    int
}

// one is a packet that was handed on, taken or not.
type one struct {
	from   int
	source uint32
	own    uint16
	number int
}

func says(parties, room int) *words {
	if parties < 1 || parties > 16 {
		parties = 16
	}
	if room < 1 || room > 64 {
		room = 64
	}
	return &words{parties: parties, room: room, here: make([]place, parties)}
}

func (w *words) is(party int) bool { return 0 <= party && party <= w.parties-1 }

// of is a party's place; one that does not listen is as good as any where there is no such party.
func (w *words) of(party int) *place {
	if !w.is(party) {
		return &place{}
	}
	return &w.here[party]
}

func (w *words) listen(party int) api.Errno {
	if !w.is(party) {
		return api.ErrArg
	}
	if w.of(party).listens {
		return api.ErrState
	}
	w.here[party] = place{listens: true}
	return api.OK
}

func (w *words) quiet(party int) api.Errno {
	if !w.is(party) {
		return api.ErrArg
	}
	if !w.of(party).listens {
		return api.ErrClosed
	}
	w.here[party] = place{}
	return api.OK
}

func (w *words) hear(party int, p audio.Packet) (int, api.Errno) {
	if !w.is(party) || p.Kind > 127 {
		return 0, api.ErrArg
	}
	if len(p.Data) > 1188 {
		return 0, api.ErrLarge
	}
	if !w.of(party).listens {
		return 0, api.ErrClosed
	}
	n := 0
	for i := range w.here {
		if i != party && w.here[i].listens && w.here[i].takes(party, p, w.room) {
			n++
		}
	}
	return n, api.OK
}

// last is the packet of a speaker that was handed on last.
func (p *place) last(from int) (one, bool) {
	for i := len(p.handed) - 1; i >= 0; i-- {
		if p.handed[i].from == from {
			return p.handed[i], true
		}
	}
	return one{}, false
}

// more is by how much a number that goes round is greater than another one; 0, if it is not.
func more(a, b uint16) int {
	if n := (int(a) - int(b) + 65536) % 65536; n < 32768 {
		return n
	}
	return 0
}

func (p *place) takes(from int, x audio.Packet, room int) bool {
	number := 0
	if last, there := p.last(from); there {
		step := 1
		if x.Source == last.source {
			step = more(x.Seq, last.own)
		}
		if step == 0 {
			return false
		}
		number = last.number + step
	}
	p.handed = append(p.handed, one{from, x.Source, x.Seq, number})
	if len(p.waits) == room {
		p.lost++
		return false
	}
	x.Seq, x.Source, x.Data = uint16(number%65536), uint32(1+from), slices.Clone(x.Data)
	p.waits = append(p.waits, x)
	return true
}

func (w *words) pull(party int) (audio.Packet, bool) {
	p := w.of(party)
	if len(p.waits) == 0 {
		return audio.Packet{}, false
	}
	x := p.waits[0]
	p.waits = slices.Clone(p.waits[1:])
	return x, true
}

// pair is a Forwarder, and beside it what the words make of the same calls. Behind each call all that a Forwarder tells without changing is asked, and what was handed in and what was told is turned, so that nobody may go on by it.
type pair struct {
	t       *testing.T
	forward *audio.Forwarder
	words   *words
}

func start(t *testing.T, parties, room int) *pair {
	t.Helper()
	p := &pair{t, audio.New(parties, room), says(parties, room)}
	p.same()
	return p
}

// listening is a pair all of whose parties listen.
func listening(t *testing.T, parties, room int) *pair {
	t.Helper()
	p := start(t, parties, room)
	for i := range parties {
		p.listen(i)
	}
	return p
}

// same asks all that a Forwarder tells.
func (p *pair) same() {
	p.t.Helper()
	for party := -1; party <= p.words.parties; party++ {
		of := p.words.of(party)
		if got, want := p.forward.Waiting(party), len(of.waits); got != want {
			p.t.Fatalf("Waiting(%d) is %d, want %d", party, got, want)
		}
		if got, want := p.forward.Lost(party), of.lost; got != want {
			p.t.Fatalf("Lost(%d) is %d, want %d", party, got, want)
		}
	}
}

func (p *pair) listen(party int) api.Errno {
	p.t.Helper()
	err, want := p.forward.Listen(party), p.words.listen(party)
	if err != want {
		p.t.Fatalf("Listen(%d) is %v, want %v", party, err, want)
	}
	p.same()
	return err
}

func (p *pair) quiet(party int) api.Errno {
	p.t.Helper()
	err, want := p.forward.Quiet(party), p.words.quiet(party)
	if err != want {
		p.t.Fatalf("Quiet(%d) is %v, want %v", party, err, want)
	}
	p.same()
	return err
}

// hear hands in octets with others behind them in the same memory, and asks that none of them is changed.
func (p *pair) hear(party int, x audio.Packet) (int, api.Errno) {
	p.t.Helper()
	octets := append(slices.Clone(x.Data), 7, 7, 7)
	whole := slices.Clone(octets)
	handed := x
	handed.Data = octets[:len(x.Data)]
	n, err := p.forward.Hear(party, handed)
	want, fault := p.words.hear(party, x)
	if n != want || err != fault {
		p.t.Fatalf("Hear(%d, %s) is %d, %v, want %d, %v", party, told(x), n, err, want, fault)
	}
	if !bytes.Equal(octets, whole) {
		p.t.Fatalf("Hear(%d, %s): the octets became %v", party, told(x), octets)
	}
	turn(octets)
	p.same()
	return n, err
}

func (p *pair) pull(party int) (audio.Packet, bool) {
	p.t.Helper()
	x, there := p.forward.Pull(party)
	want, is := p.words.pull(party)
	if !samePackets(x, want) || there != is {
		p.t.Fatalf("Pull(%d) is %s, %v, want %s, %v", party, told(x), there, told(want), is)
	}
	turn(x.Data)
	p.same()
	return want, is
}

// says hands in a packet of which only Seq and Source matter; how many took it.
func (p *pair) says(party int, source uint32, seq uint16) int {
	p.t.Helper()
	n, err := p.hear(party, audio.Packet{Marker: seq%2 == 0, Kind: uint8(seq % 128), Seq: seq, Stamp: source ^ 77, Source: source, Data: []byte{byte(seq), byte(seq >> 8)}})
	if err != api.OK {
		p.t.Fatalf("Hear(%d) is %v", party, err)
	}
	return n
}

// pulls asks that packets with just these numbers are pulled, and that no more waits.
func (p *pair) pulls(party int, want ...uint16) {
	p.t.Helper()
	var got []uint16
	for {
		x, there := p.pull(party)
		if !there {
			break
		}
		got = append(got, x.Seq)
	}
	if !slices.Equal(got, want) {
		p.t.Fatalf("%d pulls %d, want %d", party, got, want)
	}
	p.pull(party)
}

// want asks for an error.
func (p *pair) want(err, want api.Errno) {
	p.t.Helper()
	if err != want {
		p.t.Fatalf("the error is %v, want %v", err, want)
	}
}

// turn turns all octets, and those that stand behind them in the same memory.
func turn(v []byte) {
	v = v[:cap(v)]
	for i := range v {
		v[i] ^= 255
	}
}

// samePackets: of octets that are none, nil or not, nobody can tell the difference.
func samePackets(a, b audio.Packet) bool {
	return a.Marker == b.Marker && a.Kind == b.Kind && a.Seq == b.Seq && a.Stamp == b.Stamp && a.Source == b.Source && bytes.Equal(a.Data, b.Data)
}

// told is a packet as a text that is short enough to be read.
func told(p audio.Packet) string {
	return fmt.Sprintf("%v, kind %d, seq %d, stamp %d, source %d, %d octets %.8v", p.Marker, p.Kind, p.Seq, p.Stamp, p.Source, len(p.Data), p.Data)
}
