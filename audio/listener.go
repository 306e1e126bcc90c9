package audio

import (
	"bollard/api"
	"bollard/serial"
)

// listener is a party that listens.
type listener struct {
	speakers [api.MaxParties]speaker // what it knows of each party
	waiting  []Packet                // the one that waits longest first
	lost     int
}

// speaker is what a listener knows of a party: the last packet that was handed to it.
type speaker struct {
	known    bool
	source   uint32
	own, new uint16 // the packet's Seq, and the one in its place
}

// take takes a packet that a party says, if it comes behind the last one and there is room; did it?
func (l *listener) take(party int, p Packet, room int) bool {
	last := l.speakers[party]
	if !last.before(p) {
		return false
	}
	seq := last.follow(p)
	// It is the last one even where there is no room: those behind it tell by their numbers that one is left out.
	l.speakers[party] = speaker{known: true, source: p.Source, own: p.Seq, new: seq}
	if len(l.waiting) >= room {
		l.lost++
		return false
	}
	p.Seq, p.Source = seq, uint32(party)+1
	l.waiting = append(l.waiting, p)
	return true
}

// before tells that a packet comes behind the last one. The numbers of another Source say nothing of that.
func (s speaker) before(p Packet) bool {
	return !s.known || s.source != p.Source || serial.Less16(s.own, p.Seq)
}

// follow is the new Seq of a packet that comes behind the last one.
func (s speaker) follow(p Packet) uint16 {
	switch {
	case !s.known:
		return 0
	case s.source != p.Source:
		return s.new + 1
	}
	return s.new + (p.Seq - s.own)
}
