package sfu

import (
	"slices"

	"bollard/api"
	"bollard/assoc"
	"bollard/dcep"
)

// The kinds of channels whose messages are given up, and what is added where they have no order.
const (
	byTries   = 1
	byLife    = 2
	unordered = 128
)

const (
	// forGood is the life, or the tries, of what is never given up.
	forGood = -1
	// ofOpening is the PPID of an opening, and of the answer to it.
	ofOpening = 50
	// mostAnswers is how many packets wait at most to be told as answers.
	mostAnswers = 64
)

// side is what a place and a party share: an association, the channels on it, and what is to be told or done as soon as it can be.
type side struct {
	link     *assoc.Assoc
	channels *dcep.Table
	even     bool
	streams  int
	times    int           // how many times the association was made, as far as that was taken in
	answers  [][]byte      // packets
	owed     []api.Message // answers to openings
	restarts []uint16      // streams that are to be restarted
}

// newSide is one whose association is closed.
func newSide(c Config, port, peer uint16, even bool) side {
	return side{
		link:     assoc.New(assoc.Config{Port: port, Peer: peer, Key: c.Key, Streams: c.Streams, Mtu: c.Mtu, Life: c.Life}),
		channels: dcep.New(even, c.Streams),
		even:     even,
		streams:  c.Streams,
	}
}

// open tells that the association is Open.
func (x *side) open() bool { return x.link.State() == assoc.Open }

// hear takes in octets that are no sound. What is answered ahead of an error is told, too.
func (x *side) hear(b []byte, now int, draw uint32) api.Errno {
	l, err := x.link.Hear(b, now, draw)
	x.answers = append(x.answers, l[:min(len(l), mostAnswers-len(x.answers))]...)
	return err
}

// tell are the packets that are sent now.
func (x *side) tell(now int) [][]byte {
	l := append(x.answers, x.link.Tell(now)...)
	x.answers = nil
	return l
}

// news is what follows of what an association heard.
type news struct {
	anew   bool     // has it an End that was not there before?
	ended  []string // labels of which there is no channel any more
	events []dcep.Event
}

// follow takes in what an association heard: its restarts ahead of its messages, as a stream that began anew may have been opened since.
func (x *side) follow(now int) news {
	var n news
	n.anew = x.begin()
	n.ended = x.restarted()
	n.events = x.events()
	x.answer(now)
	x.restart(now)
	return n
}

// begin takes in that the association has a new End: what is known of channels is of the old one. Has it?
func (x *side) begin() bool {
	times := x.link.Times()
	if times == x.times {
		return false
	}
	x.times = times
	x.channels = dcep.New(x.even, x.streams)
	x.owed, x.restarts = nil, nil
	return true
}

// restarted takes in which streams were restarted, and tells the labels that no channel has any more.
func (x *side) restarted() []string {
	var ended []string
	for _, stream := range x.link.Restarted() {
		if !x.channels.Gone(stream) {
			continue
		}
		x.giveUp(stream)
		label := x.channels.Opening(stream).Label
		if _, there := x.channels.Find(label); !there {
			ended = append(ended, label)
		}
	}
	for _, stream := range x.link.Performed() {
		x.channels.Freed(stream)
	}
	return ended
}

// giveUp lets a stream be restarted, as its channel has ended: nothing more is sent on it.
func (x *side) giveUp(stream uint16) {
	x.restarts = append(x.restarts, stream)
	x.owed = slices.DeleteFunc(x.owed, func(m api.Message) bool { return m.Stream == stream })
}

// restart restarts the streams that are to be, if it can be done yet.
func (x *side) restart(now int) {
	if x.link.Restart(x.restarts, now) == api.OK {
		x.restarts = nil
	}
}

// events are what is told of the messages that came.
func (x *side) events() []dcep.Event {
	var l []dcep.Event
	for _, m := range x.link.Messages() {
		e, b, _ := x.channels.Hear(m) // of one that may not be Nothing is told
		l = append(l, e)
		if e.What == dcep.Opened {
			x.owed = append(x.owed, opening(m.Stream, b))
		}
	}
	return l
}

// answer answers the openings that were not answered yet, as long as there is room.
func (x *side) answer(now int) {
	for len(x.owed) > 0 && x.send(x.owed[0], now) != api.ErrFull {
		x.owed = x.owed[1:]
	}
}

// send sends a message that is never given up.
func (x *side) send(m api.Message, now int) api.Errno {
	return x.link.Send(m, forGood, forGood, now)
}

// say sends a text, or octets, on a channel, as its kind has it.
func (x *side) say(stream uint16, text bool, data []byte, now int) api.Errno {
	o := x.channels.Opening(stream)
	m := api.Message{Stream: stream, Unordered: o.Kind >= unordered}
	m.Ppid, m.Data = dcep.Wrap(text, data)
	switch o.Kind % unordered {
	case byTries:
		return x.link.Send(m, forGood, int(o.Limit), now)
	case byLife:
		return x.link.Send(m, int(o.Limit), forGood, now)
	}
	return x.send(m, now)
}

// opening is a message that an opening, or the answer to one, goes out in.
func opening(stream uint16, b []byte) api.Message {
	return api.Message{Stream: stream, Ppid: ofOpening, Data: b}
}
