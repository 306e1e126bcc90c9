package topic_test

import (
	"bytes"
	"fmt"
	"math"
	"slices"
	"strings"
	"testing"
	"unsafe"

	"bollard/api"
	"bollard/topic"
)

const (
	greatest = math.MaxInt
	least    = math.MinInt
)

// The modes, by the chapter's words.
const (
	ordered = 0
	newest  = 1
	oldest  = 2
)

// modes are all of them.
var modes = []int{ordered, newest, oldest}

// noModes are numbers of none.
var noModes = []int{-1, 3, -2, 4, 255, 256, 257, 1 << 31, 1 << 32, 1<<32 + 1, least, least + 1, greatest}

// topics may be.
var topics = []string{"a", "b", "\x00", "a\x00", "A", "chat", "grüße", "\xff", "\xed\xa0\x80", " ", long(255), long(256)}

// largeTopics are too long.
var largeTopics = []string{long(257), long(258), long(512), long(65536 + 1)}

// outside are parties that no Relay has.
var outside = []int{-1, -2, 16, 17, 18, 64, 255, 256, 1 << 32, -1 << 32, 1<<32 + 1, least, least + 1, greatest, greatest - 1}

// long is a text of n octets.
func long(n int) string { return strings.Repeat("x", n) }

// words says the chapter's words plainly: lists are gone through from their beginning, and what goes away is left out of a new one.
type words struct {
	parties, room int
	here          []place
	log           []topic.Item // all that was published
}

type place struct {
	joined bool
	subs   []sub
	waits  []topic.Item
	lost   int
}

type sub struct {
	topic  string
	mode   int
	failed bool
}

func says(parties, room int) *words {
	if parties < 1 || parties > 16 {
		parties = 16
	}
	if room < 1 || room > 64 {
		room = 64
	}
	return &words{parties: parties, room: room, here: make([]place, parties)}
}

func (w *words) is(party int) bool { return 0 <= party && party <= w.parties-1 }

// of is a party's place; one that nobody has joined is as good as any where there is no such party.
func (w *words) of(party int) *place {
	if !w.is(party) {
		return &place{}
	}
	return &w.here[party]
}

// to is a party's subscription to a topic, or nil.
func (p *place) to(name string) *sub {
	for i := range p.subs {
		if p.subs[i].topic == name {
			return &p.subs[i]
		}
	}
	return nil
}

func (w *words) join(party int) api.Errno {
	if !w.is(party) {
		return api.ErrArg
	}
	if w.of(party).joined {
		return api.ErrState
	}
	w.here[party] = place{joined: true}
	return api.OK
}

func (w *words) leave(party int) api.Errno {
	if !w.is(party) {
		return api.ErrArg
	}
	if !w.of(party).joined {
		return api.ErrClosed
	}
	w.here[party] = place{}
	return api.OK
}

func (w *words) subscribe(party int, name string, mode int) api.Errno {
	p := w.of(party)
	if !w.is(party) || !slices.Contains(modes, mode) || len(name) == 0 {
		return api.ErrArg
	}
	if len(name) > 256 {
		return api.ErrLarge
	}
	if !p.joined {
		return api.ErrClosed
	}
	if s := p.to(name); s != nil {
		if !s.failed {
			return api.ErrState
		}
		*s = sub{name, mode, false}
		return api.OK
	}
	if len(p.subs) == 64 {
		return api.ErrFull
	}
	p.subs = append(p.subs, sub{name, mode, false})
	return api.OK
}

func (w *words) drop(party int, name string) api.Errno {
	p := w.of(party)
	if !w.is(party) {
		return api.ErrArg
	}
	if !p.joined {
		return api.ErrClosed
	}
	if p.to(name) == nil {
		return api.ErrName
	}
	var subs []sub
	for _, s := range p.subs {
		if s.topic != name {
			subs = append(subs, s)
		}
	}
	var waits []topic.Item
	for _, item := range p.waits {
		if item.Topic != name {
			waits = append(waits, item)
		}
	}
	p.subs, p.waits = subs, waits
	return api.OK
}

func (w *words) publish(party int, name string, text bool, data []byte) (int, api.Errno) {
	if !w.is(party) || len(name) == 0 {
		return 0, api.ErrArg
	}
	if len(name) > 256 || len(data) > 16384 {
		return 0, api.ErrLarge
	}
	if !w.of(party).joined {
		return 0, api.ErrClosed
	}
	item := topic.Item{Topic: strings.Clone(name), From: party, Number: w.count(name), Text: text, Data: slices.Clone(data)}
	w.log = append(w.log, item)
	n := 0
	for i := range w.here {
		if i != party && w.here[i].handed(item, w.room) {
			n++
		}
	}
	return n, api.OK
}

func (p *place) handed(item topic.Item, room int) bool {
	s := p.to(item.Topic)
	if s == nil || s.failed {
		return false
	}
	if len(p.waits) < room {
		p.waits = append(p.waits, item)
		return true
	}
	switch s.mode {
	case ordered:
		s.failed = true
	case newest:
		p.lost++
	case oldest:
		p.lost++
		for i, x := range p.waits {
			if x.Topic == item.Topic {
				rest := append(slices.Clone(p.waits[:i]), p.waits[i+1:]...)
				p.waits = append(rest, item)
				return true
			}
		}
	}
	return false
}

func (w *words) pull(party int) (topic.Item, bool) {
	p := w.of(party)
	if len(p.waits) == 0 {
		return topic.Item{}, false
	}
	item := p.waits[0]
	p.waits = slices.Clone(p.waits[1:])
	return item, true
}

func (w *words) failed(party int, name string) bool {
	s := w.of(party).to(name)
	return s != nil && s.failed
}

func (w *words) count(name string) int {
	n := 0
	for _, item := range w.log {
		if item.Topic == name {
			n++
		}
	}
	return n
}

// pair is a Relay, and beside it what the words make of the same calls. Behind each call all that a Relay tells without changing is asked, and what was handed in and what was told is turned, so that nobody may go on by it.
type pair struct {
	t     *testing.T
	relay *topic.Relay
	words *words
	names []string // what is asked for
}

func start(t *testing.T, parties, room int) *pair {
	t.Helper()
	p := &pair{t, topic.New(parties, room), says(parties, room), []string{"", "none", long(257)}}
	p.same()
	return p
}

// joined is a pair whose first parties have joined.
func joined(t *testing.T, parties, room int) *pair {
	t.Helper()
	p := start(t, parties, room)
	for i := range parties {
		p.join(i)
	}
	return p
}

// same asks all that a Relay tells.
func (p *pair) same() {
	p.t.Helper()
	for i := range p.words.parties {
		p.sameOf(i)
	}
	p.sameOf(-1)
	p.sameOf(p.words.parties)
	for _, name := range p.names {
		if got, want := p.relay.Count(name), p.words.count(name); got != want {
			p.t.Fatalf("Count(%q) is %d, want %d", name, got, want)
		}
	}
}

// sameOf asks all that a Relay tells of a party.
func (p *pair) sameOf(party int) {
	p.t.Helper()
	of := p.words.of(party)
	if got, want := p.relay.Waiting(party), len(of.waits); got != want {
		p.t.Fatalf("Waiting(%d) is %d, want %d", party, got, want)
	}
	if got, want := p.relay.Lost(party), of.lost; got != want {
		p.t.Fatalf("Lost(%d) is %d, want %d", party, got, want)
	}
	for _, name := range p.names {
		if got, want := p.relay.Failed(party, name), p.words.failed(party, name); got != want {
			p.t.Fatalf("Failed(%d, %q) is %v, want %v", party, name, got, want)
		}
	}
}

// know lets a topic be asked for behind each call.
func (p *pair) know(name string) {
	if !slices.Contains(p.names, name) && len(p.names) < 80 {
		p.names = append(p.names, name)
	}
}

func (p *pair) join(party int) api.Errno {
	p.t.Helper()
	err, want := p.relay.Join(party), p.words.join(party)
	if err != want {
		p.t.Fatalf("Join(%d) is %v, want %v", party, err, want)
	}
	p.same()
	return err
}

func (p *pair) leave(party int) api.Errno {
	p.t.Helper()
	err, want := p.relay.Leave(party), p.words.leave(party)
	if err != want {
		p.t.Fatalf("Leave(%d) is %v, want %v", party, err, want)
	}
	p.same()
	return err
}

func (p *pair) subscribe(party int, name string, mode int) api.Errno {
	p.t.Helper()
	memory, handed := lent(name)
	err, want := p.relay.Subscribe(party, handed, mode), p.words.subscribe(party, name, mode)
	if err != want {
		p.t.Fatalf("Subscribe(%d, %q, %d) is %v, want %v", party, name, mode, err, want)
	}
	turn(memory)
	p.know(name)
	p.same()
	return err
}

func (p *pair) drop(party int, name string) api.Errno {
	p.t.Helper()
	memory, handed := lent(name)
	err, want := p.relay.Drop(party, handed), p.words.drop(party, name)
	if err != want {
		p.t.Fatalf("Drop(%d, %q) is %v, want %v", party, name, err, want)
	}
	turn(memory)
	p.same()
	return err
}

// publish hands in octets with others behind them in the same memory, and asks that none of them is changed.
func (p *pair) publish(party int, name string, text bool, data []byte) (int, api.Errno) {
	p.t.Helper()
	octets := append(slices.Clone(data), 7, 7, 7)
	whole := slices.Clone(octets)
	memory, handed := lent(name)
	n, err := p.relay.Publish(party, handed, text, octets[:len(data)])
	want, fault := p.words.publish(party, name, text, data)
	if n != want || err != fault {
		p.t.Fatalf("Publish(%d, %q, %v, %d octets) is %d, %v, want %d, %v", party, name, text, len(data), n, err, want, fault)
	}
	if !bytes.Equal(octets, whole) {
		p.t.Fatalf("Publish(%d, %q): the octets became %v", party, name, octets)
	}
	turn(memory)
	turn(octets)
	p.know(name)
	p.same()
	return n, err
}

func (p *pair) pull(party int) (topic.Item, bool) {
	p.t.Helper()
	item, there := p.relay.Pull(party)
	want, is := p.words.pull(party)
	if !sameItems(item, want) || there != is {
		p.t.Fatalf("Pull(%d) is %s, %v, want %s, %v", party, told(item), there, told(want), is)
	}
	turn(item.Data)
	p.same()
	return want, is
}

// says publishes a short text.
func (p *pair) says(party int, name string) int {
	p.t.Helper()
	n, err := p.publish(party, name, true, []byte(name+" "+fmt.Sprint(p.words.count(name))))
	if err != api.OK {
		p.t.Fatalf("Publish(%d, %q) is %v", party, name, err)
	}
	return n
}

// pulls asks that just these items are pulled, told by topic and number, and that no more waits.
func (p *pair) pulls(party int, want ...string) {
	p.t.Helper()
	var got []string
	for {
		item, there := p.pull(party)
		if !there {
			break
		}
		got = append(got, item.Topic+" "+fmt.Sprint(item.Number))
	}
	if !slices.Equal(got, want) {
		p.t.Fatalf("%d pulls %q, want %q", party, got, want)
	}
	p.pull(party)
}

// want asks for an error.
func (p *pair) want(err, want api.Errno) {
	p.t.Helper()
	if err != want {
		p.t.Fatalf("the error is %v, want %v", err, want)
	}
}

// lent is a text in memory that may be turned, once nobody may go on by it.
func lent(name string) ([]byte, string) {
	memory := []byte(name)
	return memory, unsafe.String(unsafe.SliceData(memory), len(memory))
}

// turn turns all octets, and those that stand behind them in the same memory.
func turn(v []byte) {
	v = v[:cap(v)]
	for i := range v {
		v[i] ^= 255
	}
}

// sameItems: of octets that are none, nil or not, nobody can tell the difference.
func sameItems(a, b topic.Item) bool {
	return a.Topic == b.Topic && a.From == b.From && a.Number == b.Number && a.Text == b.Text && bytes.Equal(a.Data, b.Data)
}

// told is an item as a text that is short enough to be read.
func told(item topic.Item) string {
	return fmt.Sprintf("%.20q from %d, number %d, %v, %d octets %.20q", item.Topic, item.From, item.Number, item.Text, len(item.Data), item.Data)
}
