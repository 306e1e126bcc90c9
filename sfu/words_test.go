package sfu_test

import (
	"slices"

	"bollard/api"
	"bollard/assoc"
	"bollard/audio"
	"bollard/dcep"
	"bollard/sfu"
	"bollard/topic"
)

// end says the words that a place and a party share, by the layers below.
type end struct {
	assoc    *assoc.Assoc
	table    func() *dcep.Table // a new one
	channels *dcep.Table
	times    int
	answered [][]byte
	replies  []uint16 // streams whose opening has no answer yet
	restarts []uint16 // streams that this side is to restart
}

func newEnd(c sfu.Config, port, peer uint16, even bool) *end {
	e := &end{
		assoc: assoc.New(assoc.Config{Port: port, Peer: peer, Key: c.Key, Streams: c.Streams, Mtu: c.Mtu, Life: c.Life}),
		table: func() *dcep.Table { return dcep.New(even, c.Streams) },
	}
	e.channels = e.table()
	return e
}

func (e *end) is(state int) bool { return e.assoc.State() == state }

func (e *end) hear(b []byte, now int, draw uint32) api.Errno {
	l, err := e.assoc.Hear(b, now, draw)
	for _, b := range l {
		if len(e.answered) < 64 {
			e.answered = append(e.answered, b)
		}
	}
	return err
}

// renewed: was the association made anew, as far as it was not asked before?
func (e *end) renewed() bool {
	if e.assoc.Times() == e.times {
		return false
	}
	e.times = e.assoc.Times()
	e.channels, e.replies, e.restarts = e.table(), nil, nil
	return true
}

// gone are the labels of the channels that the other side has ended, each with whether another channel has it still.
func (e *end) gone() (labels []string, others []bool) {
	for _, stream := range e.assoc.Restarted() {
		label := e.channels.Opening(stream).Label
		if e.channels.Gone(stream) {
			e.restarts = append(e.restarts, stream)
			e.replies = without(e.replies, stream)
			_, other := e.channels.Find(label)
			labels, others = append(labels, label), append(others, other)
		}
	}
	for _, stream := range e.assoc.Performed() {
		e.channels.Freed(stream)
	}
	return labels, others
}

func without(l []uint16, stream uint16) []uint16 {
	var rest []uint16
	for _, other := range l {
		if other != stream {
			rest = append(rest, other)
		}
	}
	return rest
}

// each hands on what is told of each message that came.
func (e *end) each(do func(label string, v dcep.Event)) {
	for _, m := range e.assoc.Messages() {
		v, b, _ := e.channels.Hear(m)
		if len(b) > 0 {
			e.replies = append(e.replies, m.Stream)
		}
		do(e.channels.Opening(m.Stream).Label, v)
	}
}

// goOn does what is to be done as soon as it can be.
func (e *end) goOn(now int) {
	e.reply(now)
	if len(e.restarts) > 0 && e.is(assoc.Open) && e.assoc.Restart(e.restarts, now) == api.OK {
		e.restarts = nil
	}
}

func (e *end) reply(now int) {
	for len(e.replies) > 0 {
		if e.assoc.Send(api.Message{Stream: e.replies[0], Ppid: 50, Data: []byte{2}}, -1, -1, now) == api.ErrFull {
			return
		}
		e.replies = slices.Clone(e.replies[1:])
	}
}

func (e *end) say(stream uint16, text bool, data []byte, now int) api.Errno {
	o := e.channels.Opening(stream)
	life, tries := -1, -1
	if o.Kind == 1 || o.Kind == 129 {
		tries = int(o.Limit)
	}
	if o.Kind == 2 || o.Kind == 130 {
		life = int(o.Limit)
	}
	ppid, b := dcep.Wrap(text, data)
	return e.assoc.Send(api.Message{Stream: stream, Unordered: o.Kind > 127, Ppid: ppid, Data: b}, life, tries, now)
}

func (e *end) tell(now int) [][]byte {
	l := append(slices.Clone(e.answered), e.assoc.Tell(now)...)
	e.answered = nil
	return l
}

// serverWords says the words of a server.
type serverWords struct {
	c       sfu.Config
	ends    []*end
	refused []*topic.Item // of each place the item that its association had no room for
	relay   *topic.Relay
	sound   *audio.Forwarder
}

func newServerWords(c sfu.Config) *serverWords {
	c.Key = slices.Clone(c.Key)
	n := c.Parties
	if n < 1 || n > 16 {
		n = 16
	}
	w := &serverWords{c: c, relay: topic.New(n, c.Room), sound: audio.New(n, c.Room), refused: make([]*topic.Item, n)}
	for range n {
		w.ends = append(w.ends, newEnd(c, 5000, 6000, false))
	}
	return w
}

func (w *serverWords) is(party int) bool { return 0 <= party && party <= len(w.ends)-1 }

func (w *serverWords) hear(party int, b []byte, now int, draw uint32) api.Errno {
	if !w.is(party) {
		return api.ErrArg
	}
	if audio.Is(b) {
		p, err := audio.Decode(b)
		if err == api.OK && !w.ends[party].is(assoc.Open) {
			err = api.ErrState
		}
		if err == api.OK {
			w.sound.Hear(party, p)
		}
		return err
	}
	err := w.ends[party].hear(b, now, draw)
	w.follow(party, now)
	return err
}

func (w *serverWords) follow(party, now int) {
	e := w.ends[party]
	if e.renewed() {
		w.leave(party)
		w.relay.Join(party)
		w.sound.Listen(party)
	}
	labels, others := e.gone()
	for i, label := range labels {
		if others[i] {
			continue
		}
		w.relay.Drop(party, label)
		if x := w.refused[party]; x != nil && x.Topic == label {
			w.refused[party] = nil
		}
	}
	e.each(func(label string, v dcep.Event) {
		mode := topic.Oldest
		if v.Opening.Kind == 0 {
			mode = topic.Ordered
		}
		switch {
		case v.What == dcep.Opened && label != "":
			w.relay.Subscribe(party, label, mode)
		case v.What == dcep.Came && label != "":
			w.relay.Publish(party, label, v.Text, v.Data)
		}
	})
	e.goOn(now)
	if e.is(assoc.Done) {
		w.leave(party)
		w.ends[party] = newEnd(w.c, 5000, 6000, false)
		w.ends[party].answered = e.answered
	}
}

func (w *serverWords) leave(party int) {
	w.relay.Leave(party)
	w.sound.Quiet(party)
	w.refused[party] = nil
}

func (w *serverWords) tick(now int) {
	for party, e := range w.ends {
		e.assoc.Tick(now)
		w.follow(party, now)
	}
}

func (w *serverWords) tell(party, now int) [][]byte {
	if !w.is(party) {
		return nil
	}
	e := w.ends[party]
	if e.is(assoc.Open) {
		e.reply(now)
		w.hand(party, now)
	}
	l := e.tell(now)
	for w.sound.Waiting(party) > 0 {
		p, _ := w.sound.Pull(party)
		b, _ := audio.Encode(p)
		l = append(l, b)
	}
	return l
}

// hand sends what waits, as long as it is taken.
func (w *serverWords) hand(party, now int) {
	for w.refused[party] != nil || w.relay.Waiting(party) > 0 {
		x := w.refused[party]
		if x == nil {
			pulled, _ := w.relay.Pull(party)
			x = &pulled
		}
		w.refused[party] = nil
		stream, there := w.ends[party].channels.Find(x.Topic)
		if there && w.ends[party].say(stream, x.Text, x.Data, now) == api.ErrFull {
			w.refused[party] = x
			return
		}
	}
}

func (w *serverWords) state(party int) int {
	if !w.is(party) {
		return assoc.Done
	}
	return w.ends[party].assoc.State()
}

func (w *serverWords) held() int {
	n := 0
	for party, x := range w.refused {
		n += w.relay.Waiting(party) + w.sound.Waiting(party)
		if x != nil {
			n++
		}
	}
	return n
}

// partyWords says the words of a party.
type partyWords struct {
	*end
	spoken [][]byte
	said   []sfu.Said
	sounds []audio.Packet
}

func newPartyWords(c sfu.Config) *partyWords { return &partyWords{end: newEnd(c, 6000, 5000, true)} }

func (w *partyWords) open(o dcep.Opening, now int) (uint16, api.Errno) {
	if !w.is(assoc.Open) {
		return 0, api.ErrState
	}
	if _, there := w.channels.Find(o.Label); there {
		return 0, api.ErrState
	}
	stream, b, err := w.channels.Ask(o)
	if err != api.OK {
		return 0, err
	}
	err = w.assoc.Send(api.Message{Stream: stream, Ppid: 50, Data: b}, -1, -1, now)
	if err != api.OK {
		w.channels.Close(stream)
		return 0, err
	}
	return stream, api.OK
}

func (w *partyWords) says(label string, text bool, data []byte, now int) api.Errno {
	stream, there := w.channels.Find(label)
	switch {
	case !w.is(assoc.Open):
		return api.ErrState
	case !there:
		return api.ErrName
	}
	return w.say(stream, text, data, now)
}

func (w *partyWords) shut(label string, now int) api.Errno {
	stream, there := w.channels.Find(label)
	if !there {
		return api.ErrName
	}
	w.channels.Close(stream)
	w.restarts = append(w.restarts, stream)
	w.replies = without(w.replies, stream)
	w.goOn(now)
	return api.OK
}

func (w *partyWords) sound(p audio.Packet) api.Errno {
	if !w.is(assoc.Open) {
		return api.ErrState
	}
	b, err := audio.Encode(p)
	if err == api.OK {
		w.spoken = append(w.spoken, b)
	}
	return err
}

func (w *partyWords) hears(b []byte, now int, draw uint32) api.Errno {
	if audio.Is(b) {
		p, err := audio.Decode(b)
		if err == api.OK {
			w.sounds = append(w.sounds, p)
			w.sounds = w.sounds[:min(len(w.sounds), 64)]
		}
		return err
	}
	err := w.end.hear(b, now, draw)
	w.follow(now)
	return err
}

func (w *partyWords) follow(now int) {
	w.renewed()
	w.gone()
	w.each(func(label string, v dcep.Event) {
		if v.What == dcep.Came {
			w.said = append(w.said, sfu.Said{Label: label, Text: v.Text, Data: v.Data})
		}
	})
	w.goOn(now)
}

func (w *partyWords) tick(now int) {
	w.assoc.Tick(now)
	w.follow(now)
}

func (w *partyWords) tells(now int) [][]byte {
	w.reply(now)
	l := append(w.tell(now), w.spoken...)
	w.spoken = nil
	return l
}

func (w *partyWords) ready(label string) bool {
	for stream := range uint16(64) {
		if w.channels.State(stream) == dcep.Open && w.channels.Opening(stream).Label == label {
			return true
		}
	}
	return false
}
