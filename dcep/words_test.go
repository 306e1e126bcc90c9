package dcep_test

import (
	"bytes"
	"encoding/binary"
	"math"
	"math/rand"
	"slices"
	"strings"
	"testing"
	"unicode/utf8"

	"bollard/api"
	"bollard/dcep"
)

const (
	greatest = math.MaxInt
	least    = math.MinInt
)

// The states, by the chapter's numbers.
const (
	free    = 0
	asked   = 1
	open    = 2
	closing = 3
)

// What is told, likewise.
const (
	nothing = 0
	opened  = 1
	ready   = 2
	came    = 3
)

// kinds are those of channels.
var kinds = []uint8{0, 1, 2, 128, 129, 130}

// texts are UTF-8: the first and the last character of each length, beside the surrogates, the one that stands for what is none.
var texts = []string{"", "a", "\x00", "\x7f", "\u0080", "\u07ff", "\u0800", "\ud7ff", "\ue000", "\uffff", "\ufffd", "\ufeff", "\U00010000", "\U0010ffff", "chat", "grüße", "a\U0001d11eb"}

// noTexts are not UTF-8.
var noTexts = []string{
	"\x80", "\xbf", "a\x80", "\x80a", "\xc3\xa9\xa9", // a lone continuation
	"\xed\xa0\x80", "\xed\xad\xbf", "\xed\xae\x80", "\xed\xbf\xbf", "\xed\xa0\x80\xed\xb0\x80", // a surrogate
	"\xc0\x80", "\xc1\xbf", "\xe0\x80\x80", "\xe0\x9f\xbf", "\xf0\x80\x80\x80", "\xf0\x8f\xbf\xbf", // too long a form
	"\xc3", "\xe2\x82", "\xe2", "\xf0\x9d\x84", "\xf0\x9d", "\xf0", "a\xc3", "\xc3a", "\xe2\x82a", "\xf0\x9d\x84a", "\xe2a\x82", // one that is cut off
	"\xf4\x90\x80\x80", "\xf5\x80\x80\x80", "\xf8\x88\x80\x80\x80", "\xfe", "\xff", "\xff\xfe", "ab\xffcd", // no character at all
}

// lengths are those of texts, at the edges.
var lengths = []int{0, 1, 2, 254, 255, 256, 257, 258, 511, 512, 513, 1000, 65535, 65536, 65537, 65792}

// places are streams that are, and numbers of none.
func places() []uint16 {
	l := []uint16{66, 127, 128, 255, 256, 257, 32767, 32768, 32769, 65534, 65535}
	for i := range uint16(66) {
		l = append(l, i)
	}
	return l
}

// long is a text of n octets.
func long(n int) string { return strings.Repeat("x", n) }

// encoded says P18.1's words of Encode.
func encoded(o dcep.Opening) ([]byte, api.Errno) {
	if !slices.Contains(kinds, o.Kind) || !utf8.ValidString(o.Label) || !utf8.ValidString(o.Protocol) {
		return nil, api.ErrArg
	}
	if len(o.Label) > 256 || len(o.Protocol) > 256 {
		return nil, api.ErrLarge
	}
	return laid(o), api.OK
}

// laid are the octets of an opening, whether it may be or not.
func laid(o dcep.Opening) []byte {
	b := []byte{3, o.Kind}
	b = binary.BigEndian.AppendUint16(b, o.Priority)
	b = binary.BigEndian.AppendUint32(b, o.Limit)
	b = binary.BigEndian.AppendUint16(b, uint16(len(o.Label)))
	b = binary.BigEndian.AppendUint16(b, uint16(len(o.Protocol)))
	return append(b, o.Label+o.Protocol...)
}

// decoded says P18.1's words of Decode.
func decoded(b []byte) (dcep.Opening, api.Errno) {
	if !bytes.HasPrefix(b, []byte{3}) && !bytes.Equal(b, nil) {
		return dcep.Opening{}, api.ErrForm
	}
	if len(b) < 1+1+2+4+2+2 {
		return dcep.Opening{}, api.ErrShort
	}
	label, protocol := int(b[8])*256+int(b[9]), int(b[10])*256+int(b[11])
	if label > 256 || protocol > 256 {
		return dcep.Opening{}, api.ErrLarge
	}
	if len(b) < 12+label+protocol {
		return dcep.Opening{}, api.ErrShort
	}
	if len(b) > 12+label+protocol {
		return dcep.Opening{}, api.ErrForm
	}
	o := dcep.Opening{Kind: b[1], Label: string(b[12 : 12+label]), Protocol: string(b[12+label:])}
	o.Priority = uint16(b[2])*256 + uint16(b[3])
	for _, v := range b[4:8] {
		o.Limit = o.Limit*256 + uint32(v)
	}
	if _, err := encoded(o); err != api.OK {
		return dcep.Opening{}, err
	}
	return o, api.OK
}

// wrapped says P18.2's words of Wrap.
func wrapped(text bool, b []byte) (uint32, []byte) {
	ppid := uint32(53)
	if text {
		ppid = 51
	}
	if len(b) > 0 {
		return ppid, b
	}
	return map[uint32]uint32{51: 56, 53: 57}[ppid], []byte{0}
}

// unwrapped says P18.2's words of Unwrap.
func unwrapped(ppid uint32, b []byte) (bool, []byte, bool) {
	switch {
	case ppid == 51 && len(b) > 0:
		return true, b, true
	case ppid == 53 && len(b) > 0:
		return false, b, true
	case ppid == 56:
		return true, nil, true
	case ppid == 57:
		return false, nil, true
	}
	return false, nil, false
}

// words says P18.3 to P18.5's words plainly: the streams that are not Free stand in a map.
type words struct {
	even    bool
	streams int
	used    map[uint16]row
}

type row struct {
	state   int
	opening dcep.Opening
	theirs  bool // the other side's restart is remembered
	ours    bool // this side's
}

func says(even bool, streams int) *words {
	if streams < 1 || streams > 64 {
		streams = 64
	}
	return &words{even, streams, map[uint16]row{}}
}

// mine are the streams that this side opens.
func (w *words) mine() []uint16 {
	var l []uint16
	for i := range w.streams {
		if (i%2 == 0) == w.even {
			l = append(l, uint16(i))
		}
	}
	return l
}

func (w *words) ask(o dcep.Opening) (uint16, []byte, api.Errno) {
	b, err := encoded(o)
	if err != api.OK {
		return 0, nil, err
	}
	for _, stream := range w.mine() {
		if w.state(stream) == free {
			w.used[stream] = row{state: asked, opening: o}
			return stream, b, api.OK
		}
	}
	return 0, nil, api.ErrFull
}

func (w *words) hear(m api.Message) (dcep.Event, []byte, api.Errno) {
	if int(m.Stream) >= w.streams {
		return dcep.Event{}, nil, api.ErrArg
	}
	switch {
	case m.Ppid == 50 && bytes.Equal(m.Data, []byte{2}):
		v, err := w.answer(m)
		return v, nil, err
	case m.Ppid == 50:
		return w.opening(m)
	}
	v, err := w.said(m)
	return v, nil, err
}

func (w *words) answer(m api.Message) (dcep.Event, api.Errno) {
	r := w.used[m.Stream]
	switch r.state {
	case asked:
		r.state = open
		w.used[m.Stream] = r
		return dcep.Event{What: ready, Stream: m.Stream, Opening: r.opening}, api.OK
	case open, closing:
		return dcep.Event{}, api.OK
	}
	return dcep.Event{}, api.ErrState
}

func (w *words) opening(m api.Message) (dcep.Event, []byte, api.Errno) {
	o, err := decoded(m.Data)
	if err != api.OK {
		return dcep.Event{}, nil, err
	}
	if w.state(m.Stream) != free || slices.Contains(w.mine(), m.Stream) {
		return dcep.Event{}, nil, api.ErrState
	}
	w.used[m.Stream] = row{state: open, opening: o}
	return dcep.Event{What: opened, Stream: m.Stream, Opening: o}, []byte{2}, api.OK
}

func (w *words) said(m api.Message) (dcep.Event, api.Errno) {
	if w.state(m.Stream) == free {
		return dcep.Event{}, api.ErrClosed
	}
	text, b, ok := unwrapped(m.Ppid, m.Data)
	if !ok {
		return dcep.Event{}, api.ErrForm
	}
	if w.state(m.Stream) == closing {
		return dcep.Event{}, api.OK
	}
	return dcep.Event{What: came, Stream: m.Stream, Text: text, Data: slices.Clone(b)}, api.OK
}

func (w *words) close(stream uint16) api.Errno {
	r := w.used[stream]
	if r.state != asked && r.state != open {
		return api.ErrClosed
	}
	r.state = closing
	w.used[stream] = r
	return api.OK
}

func (w *words) gone(stream uint16) bool {
	r, there := w.used[stream]
	if !there {
		return false
	}
	told := r.state != closing
	r.state, r.theirs = closing, true
	w.keep(stream, r)
	return told
}

func (w *words) freed(stream uint16) {
	if r := w.used[stream]; r.state == closing {
		r.ours = true
		w.keep(stream, r)
	}
}

// keep keeps a row, unless both restarts are remembered.
func (w *words) keep(stream uint16, r row) {
	w.used[stream] = r
	if r.theirs && r.ours {
		delete(w.used, stream)
	}
}

func (w *words) state(stream uint16) int { return w.used[stream].state }

func (w *words) find(label string) (uint16, bool) {
	for i := range uint16(w.streams) {
		if r := w.used[i]; (r.state == asked || r.state == open) && r.opening.Label == label {
			return i, true
		}
	}
	return 0, false
}

// pair is a Table, and beside it what the words make of the same calls. Behind each call all that a Table tells is asked, and what was handed in and what was told is turned, so that nobody may go on by it.
type pair struct {
	t      *testing.T
	table  *dcep.Table
	words  *words
	labels map[string]bool
}

func start(t *testing.T, even bool, streams int) *pair {
	t.Helper()
	p := &pair{t, dcep.New(even, streams), says(even, streams), map[string]bool{"": true, "none": true}}
	p.same()
	return p
}

// same asks all that a Table tells.
func (p *pair) same() {
	p.t.Helper()
	for _, stream := range places() {
		if got, want := p.table.State(stream), p.words.state(stream); got != want {
			p.t.Fatalf("State(%d) is %d, want %d", stream, got, want)
		}
		if got, want := p.table.Opening(stream), p.words.used[stream].opening; got != want {
			p.t.Fatalf("Opening(%d) is %#v, want %#v", stream, got, want)
		}
	}
	for label := range p.labels {
		stream, there := p.table.Find(label)
		if want, is := p.words.find(label); stream != want || there != is {
			p.t.Fatalf("Find(%q) is %d, %v, want %d, %v", label, stream, there, want, is)
		}
	}
}

func (p *pair) ask(o dcep.Opening) (uint16, []byte, api.Errno) {
	p.t.Helper()
	stream, b, err := p.table.Ask(o)
	want, octets, fault := p.words.ask(o)
	if stream != want || !bytes.Equal(b, octets) || err != fault {
		p.t.Fatalf("Ask(%#v) is %d, %v, %v, want %d, %v, %v", o, stream, b, err, want, octets, fault)
	}
	turn(b)
	p.labels[o.Label] = true
	p.same()
	return stream, octets, err
}

// hear hands in a message, with octets behind it in the same memory, and asks that none of them is changed.
func (p *pair) hear(m api.Message) (dcep.Event, []byte, api.Errno) {
	p.t.Helper()
	memory := append(slices.Clone(m.Data), 2, 7, 7)
	whole := slices.Clone(memory)
	handed := m
	handed.Data = memory[:len(m.Data)]
	v, b, err := p.table.Hear(handed)
	want, octets, fault := p.words.hear(m)
	if !sameEvents(v, want) || !bytes.Equal(b, octets) || err != fault {
		p.t.Fatalf("Hear(%#v) is %#v, %v, %v, want %#v, %v, %v", m, v, b, err, want, octets, fault)
	}
	if !bytes.Equal(memory, whole) {
		p.t.Fatalf("Hear(%#v): the octets became %v", m, memory)
	}
	turn(memory)
	if !sameEvents(v, want) || !bytes.Equal(b, octets) {
		p.t.Fatalf("Hear(%#v): what was told changed as what was handed in was turned: %#v, %v", m, v, b)
	}
	turn(v.Data)
	turn(b)
	p.labels[want.Opening.Label] = true
	p.same()
	return want, octets, err
}

func (p *pair) close(stream uint16) api.Errno {
	p.t.Helper()
	err := p.table.Close(stream)
	if want := p.words.close(stream); err != want {
		p.t.Fatalf("Close(%d) is %v, want %v", stream, err, want)
	}
	p.same()
	return err
}

func (p *pair) gone(stream uint16) bool {
	p.t.Helper()
	told := p.table.Gone(stream)
	if want := p.words.gone(stream); told != want {
		p.t.Fatalf("Gone(%d) is %v, want %v", stream, told, want)
	}
	p.same()
	return told
}

func (p *pair) freed(stream uint16) {
	p.t.Helper()
	p.table.Freed(stream)
	p.words.freed(stream)
	p.same()
}

// is asks a stream's state.
func (p *pair) is(stream uint16, state int) {
	p.t.Helper()
	if got := p.table.State(stream); got != state {
		p.t.Fatalf("State(%d) is %d, want %d", stream, got, state)
	}
}

// sameEvents: of octets that are none, nil or not, nobody can tell the difference.
func sameEvents(a, b dcep.Event) bool {
	return a.What == b.What && a.Stream == b.Stream && a.Opening == b.Opening && a.Text == b.Text && bytes.Equal(a.Data, b.Data)
}

// turn turns all octets, and those that stand behind them in the same memory.
func turn(v []byte) {
	v = v[:cap(v)]
	for i := range v {
		v[i] ^= 255
	}
}

// labelled is an opening with a label, each other field of which is another one.
func labelled(label string) dcep.Opening {
	return dcep.Opening{Kind: 129, Priority: 258, Limit: 0x03040506, Label: label, Protocol: "of " + label}
}

func opens(stream uint16, o dcep.Opening) api.Message {
	return api.Message{Stream: stream, Ppid: 50, Data: laid(o)}
}

func answers(stream uint16) api.Message {
	return api.Message{Stream: stream, Ppid: 50, Data: []byte{2}}
}

func says51(stream uint16, text string) api.Message {
	return api.Message{Stream: stream, Ppid: 51, Data: []byte(text)}
}

// way is one on which a stream comes into a state.
type way struct {
	name  string
	state int
	own   bool // is the stream one of this side's?
	lead  func(p *pair, stream uint16)
}

// ways are all of them: into each state, and into Closing from each state, with each of the restarts remembered.
func ways() []way {
	var l []way
	for _, own := range []bool{true, false} {
		l = append(l, way{"never used", free, own, func(*pair, uint16) {}})
		l = append(l, way{"used and free again", free, own, func(p *pair, stream uint16) {
			bring(p, stream, own)
			p.gone(stream)
			p.freed(stream)
		}})
		l = append(l, way{"used, closed and free again", free, own, func(p *pair, stream uint16) {
			bring(p, stream, own)
			p.close(stream)
			p.freed(stream)
			p.gone(stream)
		}})
		l = append(l, way{"opened", open, own, func(p *pair, stream uint16) { bring(p, stream, own) }})
		l = append(l, closed("opened", own, func(p *pair, stream uint16) { bring(p, stream, own) })...)
	}
	l = append(l, way{"asked for", asked, true, request})
	return append(l, closed("asked for", true, request)...)
}

// closed are the ways into Closing from a channel that a lead leads to.
func closed(name string, own bool, lead func(p *pair, stream uint16)) []way {
	to := func(how string, further ...func(p *pair, stream uint16)) way {
		return way{name + ", " + how, closing, own, func(p *pair, stream uint16) {
			lead(p, stream)
			for _, f := range further {
				f(p, stream)
			}
		}}
	}
	close := func(p *pair, stream uint16) { p.close(stream) }
	gone := func(p *pair, stream uint16) { p.gone(stream) }
	freed := func(p *pair, stream uint16) { p.freed(stream) }
	return []way{to("closed", close), to("gone", gone), to("closed, gone", close, gone), to("closed, freed", close, freed), to("gone twice", gone, gone), to("closed, freed twice", close, freed, freed)}
}

// request asks for the stream, which is to be the lowest one of this side's that is free.
func request(p *pair, stream uint16) {
	p.t.Helper()
	if got, _, _ := p.ask(labelled("first")); got != stream {
		p.t.Fatalf("the stream %d was asked for, want %d", got, stream)
	}
}

// bring opens a channel on a stream.
func bring(p *pair, stream uint16, own bool) {
	p.t.Helper()
	if own {
		request(p, stream)
		p.hear(answers(stream))
	} else {
		p.hear(opens(stream, labelled("first")))
	}
	p.is(stream, open)
}

// in is a Table whose first stream of this side's, or of the other one's, came by a way into a state.
func (w way) in(t *testing.T, even bool) (*pair, uint16) {
	t.Helper()
	p := start(t, even, 6)
	stream := uint16(0)
	if even != w.own {
		stream = 1
	}
	w.lead(p, stream)
	p.is(stream, w.state)
	return p, stream
}

// eachWay goes on from each way into a state, on Tables of both parities.
func eachWay(t *testing.T, run func(t *testing.T, w way, p *pair, stream uint16)) {
	for _, w := range ways() {
		for _, even := range []bool{true, false} {
			t.Run(w.name, func(t *testing.T) {
				p, stream := w.in(t, even)
				run(t, w, p, stream)
			})
		}
	}
}

// drawnText is a text, most often a short one, sometimes one that is none.
func drawnText(draw *rand.Rand) string {
	switch draw.Intn(12) {
	case 0:
		return noTexts[draw.Intn(len(noTexts))]
	case 1:
		return long(draw.Intn(260))
	case 2:
		return long(255) + texts[draw.Intn(len(texts))]
	}
	return texts[draw.Intn(len(texts))]
}

// drawnOpening is one that may be, most often.
func drawnOpening(draw *rand.Rand) dcep.Opening {
	o := dcep.Opening{Kind: kinds[draw.Intn(len(kinds))], Priority: uint16(draw.Uint32()), Limit: draw.Uint32(), Label: drawnText(draw), Protocol: drawnText(draw)}
	if draw.Intn(12) == 0 {
		o.Kind = uint8(draw.Intn(256))
	}
	return o
}
