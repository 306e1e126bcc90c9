package sfu_test

import (
	"bytes"
	"math"
	"reflect"
	"slices"
	"strings"
	"testing"

	"bollard/api"
	"bollard/assoc"
	"bollard/audio"
	"bollard/crc"
	"bollard/dcep"
	"bollard/packet"
	"bollard/sfu"
)

const (
	greatest = math.MaxInt
	least    = math.MinInt
	always   = -1
)

// labels are those that are asked for behind each call.
var labels = []string{"", "a", "b", "chat", "none"}

// key is the usual one.
func key() []byte { return []byte("0123456789abcdef") }

// config is the usual one.
func config() sfu.Config {
	return sfu.Config{Parties: 3, Room: 4, Streams: 8, Mtu: 1200, Life: 60000, Key: key()}
}

// draws are numbers that are handed in as drawn.
type draws uint32

func (d *draws) next() uint32 {
	*d++
	return uint32(*d)
}

// turn turns all octets, and those that stand behind them in the same memory.
func turn(v []byte) {
	v = v[:cap(v)]
	for i := range v {
		v[i] ^= 255
	}
}

// handed hands in octets with others behind them in the same memory, asks that none of them is changed, and turns them then.
func handed[T any](t *testing.T, b []byte, call func(b []byte) T) T {
	t.Helper()
	memory := append(slices.Clone(b), 7, 7, 7)
	whole := slices.Clone(memory)
	answer := call(memory[:len(b)])
	if !bytes.Equal(memory, whole) {
		t.Fatalf("the octets %v became %v", whole, memory)
	}
	turn(memory)
	return answer
}

// told is a copy of what was told, which is turned then.
func told(l [][]byte) [][]byte {
	var copies [][]byte
	for _, b := range l {
		copies = append(copies, slices.Clone(b))
		turn(b)
	}
	return copies
}

// sameOctets: of lists that are none, nil or not, nobody can tell the difference.
func sameOctets(a, b [][]byte) bool { return slices.EqualFunc(a, b, bytes.Equal) }

// host is a server, and beside it what the words make of the same calls. Behind each call all that a server tells without changing is asked.
type host struct {
	draws
	t *testing.T
	s *sfu.Server
	w *serverWords
}

func newHost(t *testing.T, c sfu.Config) *host {
	t.Helper()
	w := c
	w.Key = slices.Clone(c.Key)
	c.Key = append(slices.Clone(c.Key), 1, 2)[:len(c.Key)]
	h := &host{draws: 1000, t: t, s: sfu.NewServer(c), w: newServerWords(w)}
	if !bytes.Equal(c.Key, w.Key) {
		t.Fatalf("the key became %v", c.Key)
	}
	turn(c.Key)
	h.same()
	return h
}

func (h *host) same() {
	h.t.Helper()
	for party := -1; party <= len(h.w.ends); party++ {
		if got, want := h.s.State(party), h.w.state(party); got != want {
			h.t.Fatalf("State(%d) is %d, want %d", party, got, want)
		}
		if got, want := h.s.Lost(party), h.w.relay.Lost(party); got != want {
			h.t.Fatalf("Lost(%d) is %d, want %d", party, got, want)
		}
		for _, label := range labels {
			if got, want := h.s.Failed(party, label), h.w.relay.Failed(party, label); got != want {
				h.t.Fatalf("Failed(%d, %q) is %v, want %v", party, label, got, want)
			}
		}
	}
	if got, want := h.s.Held(), h.w.held(); got != want {
		h.t.Fatalf("Held is %d, want %d", got, want)
	}
}

func (h *host) hear(party int, b []byte, now int) api.Errno {
	h.t.Helper()
	draw := h.next()
	want := h.w.hear(party, slices.Clone(b), now, draw)
	got := handed(h.t, b, func(b []byte) api.Errno { return h.s.Hear(party, b, now, draw) })
	if got != want {
		h.t.Fatalf("Hear(%d, %v) is %v, want %v", party, b, got, want)
	}
	h.same()
	return want
}

func (h *host) tick(now int) {
	h.t.Helper()
	h.w.tick(now)
	h.s.Tick(now)
	h.same()
}

func (h *host) tell(party, now int) [][]byte {
	h.t.Helper()
	want := h.w.tell(party, now)
	got := told(h.s.Tell(party, now))
	if !sameOctets(got, want) {
		h.t.Fatalf("Tell(%d, %d) is %s, want %s", party, now, shown(got), shown(want))
	}
	h.same()
	return want
}

// are asks for a place's state, and how much waits at the server.
func (h *host) are(party, state, held int) {
	h.t.Helper()
	if h.s.State(party) != state || h.s.Held() != held {
		h.t.Fatalf("State(%d) is %d, Held %d, want %d, %d", party, h.s.State(party), h.s.Held(), state, held)
	}
}

// shown are packets as a text.
func shown(l [][]byte) string {
	var s strings.Builder
	for _, b := range l {
		s.WriteString(" ")
		s.WriteString(strings.ReplaceAll(string(bytes.ToValidUTF8(b, []byte("."))), "\x00", "0"))
	}
	return s.String()
}

// peer is what speaks: a host's place, a guest, or an association that is led by hand.
type peer interface {
	take(b []byte, now int) api.Errno
	give(now int) [][]byte
}

// seat is a host's place.
type seat struct {
	h     *host
	party int
}

func (s seat) take(b []byte, now int) api.Errno {
	s.h.t.Helper()
	return s.h.hear(s.party, b, now)
}

func (s seat) give(now int) [][]byte {
	s.h.t.Helper()
	return s.h.tell(s.party, now)
}

// guest is a party, and beside it what the words make of the same calls.
type guest struct {
	draws
	t *testing.T
	p *sfu.Party
	w *partyWords
}

func newGuest(t *testing.T, c sfu.Config) *guest {
	t.Helper()
	w := c
	w.Key = slices.Clone(c.Key)
	c.Key = append(slices.Clone(c.Key), 1, 2)[:len(c.Key)]
	g := &guest{draws: 5000, t: t, p: sfu.NewParty(c), w: newPartyWords(w)}
	if !bytes.Equal(c.Key, w.Key) {
		t.Fatalf("the key became %v", c.Key)
	}
	turn(c.Key)
	g.same()
	return g
}

func (g *guest) same() {
	g.t.Helper()
	if got, want := g.p.State(), g.w.assoc.State(); got != want {
		g.t.Fatalf("State is %d, want %d", got, want)
	}
	for _, label := range labels {
		if got, want := g.p.Ready(label), g.w.ready(label); got != want {
			g.t.Fatalf("Ready(%q) is %v, want %v", label, got, want)
		}
	}
}

func (g *guest) was(what string, got, want api.Errno) api.Errno {
	g.t.Helper()
	if got != want {
		g.t.Fatalf("%s is %v, want %v", what, got, want)
	}
	g.same()
	return got
}

func (g *guest) start(now int, draw uint32) api.Errno {
	g.t.Helper()
	return g.was("Start", g.p.Start(now, draw), g.w.assoc.Start(now, draw))
}

func (g *guest) open(o dcep.Opening, now int) (uint16, api.Errno) {
	g.t.Helper()
	stream, err := g.p.Open(o, now)
	wanted, want := g.w.open(o, now)
	if stream != wanted {
		g.t.Fatalf("Open is %d, want %d", stream, wanted)
	}
	return stream, g.was("Open", err, want)
}

func (g *guest) say(label string, text bool, data []byte, now int) api.Errno {
	g.t.Helper()
	want := g.w.says(label, text, slices.Clone(data), now)
	got := handed(g.t, data, func(b []byte) api.Errno { return g.p.Say(label, text, b, now) })
	return g.was("Say", got, want)
}

func (g *guest) shut(label string, now int) api.Errno {
	g.t.Helper()
	return g.was("Shut", g.p.Shut(label, now), g.w.shut(label, now))
}

func (g *guest) close(now int) api.Errno {
	g.t.Helper()
	return g.was("Close", g.p.Close(now), g.w.assoc.Close(now))
}

func (g *guest) sound(a audio.Packet) api.Errno {
	g.t.Helper()
	want := g.w.sound(a)
	got := handed(g.t, a.Data, func(b []byte) api.Errno {
		a.Data = b
		return g.p.Sound(a)
	})
	return g.was("Sound", got, want)
}

func (g *guest) take(b []byte, now int) api.Errno {
	g.t.Helper()
	draw := g.next()
	want := g.w.hears(slices.Clone(b), now, draw)
	got := handed(g.t, b, func(b []byte) api.Errno { return g.p.Hear(b, now, draw) })
	return g.was("Hear", got, want)
}

func (g *guest) tick(now int) {
	g.t.Helper()
	g.w.tick(now)
	g.p.Tick(now)
	g.same()
}

func (g *guest) give(now int) [][]byte {
	g.t.Helper()
	want := g.w.tells(now)
	got := told(g.p.Tell(now))
	if !sameOctets(got, want) {
		g.t.Fatalf("Tell(%d) is %s, want %s", now, shown(got), shown(want))
	}
	g.same()
	return want
}

// heard is what the party heard since, which it tells once.
func (g *guest) heard() []sfu.Said {
	g.t.Helper()
	want := g.w.said
	g.w.said = nil
	var got []sfu.Said
	for _, s := range g.p.Heard() {
		got = append(got, sfu.Said{Label: s.Label, Text: s.Text, Data: slices.Clone(s.Data)})
		turn(s.Data)
	}
	same := func(a, b sfu.Said) bool {
		return a.Label == b.Label && a.Text == b.Text && bytes.Equal(a.Data, b.Data)
	}
	if !slices.EqualFunc(got, want, same) {
		g.t.Fatalf("Heard is %v, want %v", got, want)
	}
	if again := g.p.Heard(); len(again) != 0 {
		g.t.Fatalf("Heard once more is %v", again)
	}
	return want
}

func (g *guest) sounds() []audio.Packet {
	g.t.Helper()
	want := g.w.sounds
	g.w.sounds = nil
	var got []audio.Packet
	for _, p := range g.p.Sounds() {
		data := p.Data
		p.Data = slices.Clone(data)
		got = append(got, p)
		turn(data)
	}
	if !slices.EqualFunc(got, want, samePackets) {
		g.t.Fatalf("Sounds are %v, want %v", got, want)
	}
	if again := g.p.Sounds(); len(again) != 0 {
		g.t.Fatalf("Sounds once more are %v", again)
	}
	return want
}

// samePackets: of octets that are none, nil or not, nobody can tell the difference.
func samePackets(a, b audio.Packet) bool {
	return a.Marker == b.Marker && a.Kind == b.Kind && a.Seq == b.Seq && a.Stamp == b.Stamp && a.Source == b.Source && bytes.Equal(a.Data, b.Data)
}

// hand is an association that is led by hand: the other side of a place, or of a party.
type hand struct {
	draws
	t         *testing.T
	a         *assoc.Assoc
	answers   [][]byte
	messages  []api.Message
	restarted []uint16
	performed []uint16
	sounds    []audio.Packet
}

func newHand(t *testing.T, port, other uint16, draw draws) *hand {
	return &hand{draws: draw, t: t, a: assoc.New(assoc.Config{Port: port, Peer: other, Key: key(), Streams: 64, Mtu: 1200, Life: 60000})}
}

func (h *hand) take(b []byte, now int) api.Errno {
	if audio.Is(b) {
		p, err := audio.Decode(b)
		h.sounds = append(h.sounds, p)
		return err
	}
	l, err := h.a.Hear(b, now, h.next())
	h.answers = append(h.answers, l...)
	h.messages = append(h.messages, h.a.Messages()...)
	h.restarted = append(h.restarted, h.a.Restarted()...)
	h.performed = append(h.performed, h.a.Performed()...)
	return err
}

func (h *hand) give(now int) [][]byte {
	l := append(h.answers, h.a.Tell(now)...)
	h.answers = nil
	return l
}

// send sends a message that is never given up.
func (h *hand) send(stream uint16, ppid uint32, b []byte) {
	h.t.Helper()
	if err := h.a.Send(api.Message{Stream: stream, Ppid: ppid, Data: b}, always, always, 0); err != api.OK {
		h.t.Fatalf("Send is %v", err)
	}
}

// opens sends an opening.
func (h *hand) opens(stream uint16, o dcep.Opening) {
	h.t.Helper()
	h.send(stream, 50, encoded(h.t, o))
}

// says sends a text on a stream.
func (h *hand) says(stream uint16, text string) {
	h.t.Helper()
	h.send(stream, 51, []byte(text))
}

// restarts restarts streams.
func (h *hand) restarts(streams ...uint16) {
	h.t.Helper()
	if err := h.a.Restart(streams, 0); err != api.OK {
		h.t.Fatalf("Restart is %v", err)
	}
}

// has asks for the messages that came since, but answers to openings.
func (h *hand) has(want ...api.Message) {
	h.t.Helper()
	got := slices.DeleteFunc(h.messages, func(m api.Message) bool { return m.Ppid == 50 })
	h.messages = nil
	if !slices.EqualFunc(got, want, sameMessages) {
		h.t.Fatalf("there came %v, want %v", got, want)
	}
}

func sameMessages(a, b api.Message) bool {
	return a.Stream == b.Stream && a.Unordered == b.Unordered && a.Ppid == b.Ppid && bytes.Equal(a.Data, b.Data)
}

func encoded(t *testing.T, o dcep.Opening) []byte {
	t.Helper()
	b, err := dcep.Encode(o)
	if err != api.OK {
		t.Fatalf("Encode of %v is %v", o, err)
	}
	return b
}

// text is a message of a text.
func text(stream uint16, s string) api.Message {
	return api.Message{Stream: stream, Ppid: 51, Data: []byte(s)}
}

// exchange lets two speak until neither has more to tell.
func exchange(t *testing.T, now int, x, y peer) {
	t.Helper()
	for range 1000 {
		l, m := x.give(now), [][]byte(nil)
		for _, b := range l {
			y.take(b, now)
		}
		m = y.give(now)
		for _, b := range m {
			x.take(b, now)
		}
		if len(l)+len(m) == 0 {
			return
		}
	}
	t.Fatal("there is no end of it")
}

// bring lets one tell, and the other one hear it.
func bring(t *testing.T, now int, x, y peer) {
	t.Helper()
	for _, b := range x.give(now) {
		if err := y.take(b, now); err != api.OK {
			t.Fatalf("Hear is %v", err)
		}
	}
}

// comes opens a place by hand.
func comes(t *testing.T, h *host, party int) *hand {
	t.Helper()
	x := newHand(t, 6000, 5000, draws(100*party+100))
	if err := x.a.Start(0, x.next()); err != api.OK {
		t.Fatalf("Start is %v", err)
	}
	exchange(t, 0, x, seat{h, party})
	h.are(party, assoc.Open, h.s.Held())
	return x
}

// all opens all places by hand.
func all(t *testing.T, h *host) []*hand {
	t.Helper()
	var l []*hand
	for party := range h.w.ends {
		l = append(l, comes(t, h, party))
	}
	return l
}

// receives opens a party by hand: the server is led.
func receives(t *testing.T, g *guest) *hand {
	t.Helper()
	x := newHand(t, 5000, 6000, 300)
	if err := g.start(0, g.next()); err != api.OK {
		t.Fatalf("Start is %v", err)
	}
	exchange(t, 0, g, x)
	if g.p.State() != assoc.Open {
		t.Fatalf("State is %d", g.p.State())
	}
	return x
}

// chunks are those of packets, one behind the other.
func chunks(t *testing.T, l [][]byte) []api.Chunk {
	t.Helper()
	var found []api.Chunk
	for _, b := range l {
		p, err := packet.Decode(crc.Table(), b)
		if err != api.OK {
			t.Fatalf("Decode is %v", err)
		}
		found = append(found, p.Chunks...)
	}
	return found
}

// of are the chunks of a kind.
func of(l []api.Chunk, kind uint8) []api.Chunk {
	return slices.DeleteFunc(slices.Clone(l), func(c api.Chunk) bool { return c.Kind != kind })
}

// packed are chunks in a packet of a hand.
func (h *hand) packed(from, to uint16, l ...api.Chunk) []byte {
	h.t.Helper()
	_, tag := h.a.Tags()
	return packedUnder(h.t, tag, from, to, l...)
}

// packedUnder are chunks in a packet.
func packedUnder(t *testing.T, tag uint32, from, to uint16, l ...api.Chunk) []byte {
	t.Helper()
	b, err := packet.Encode(crc.Table(), api.Packet{From: from, To: to, Tag: tag, Chunks: l})
	if err != api.OK {
		t.Fatalf("Encode is %v", err)
	}
	return b
}

// want asks for an error.
func want(t *testing.T, got, want api.Errno) {
	t.Helper()
	if got != want {
		t.Fatalf("the error is %v, want %v", got, want)
	}
}

// equal asks that two are the same.
func equal[T any](t *testing.T, what string, got, want T) {
	t.Helper()
	if !reflect.DeepEqual(got, want) {
		t.Fatalf("%s is %v, want %v", what, got, want)
	}
}
