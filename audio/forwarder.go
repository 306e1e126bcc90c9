package audio

import (
	"slices"

	"bollard/api"
)

// Forwarder hands packets on.
type Forwarder struct {
	room    int
	parties []*listener // nil where a party does not listen
}

// New is one to whom nobody listens.
func New(parties, room int) *Forwarder {
	if parties < 1 || parties > api.MaxParties {
		parties = api.MaxParties
	}
	if room < 1 || room > api.MaxQueue {
		room = api.MaxQueue
	}
	return &Forwarder{room: room, parties: make([]*listener, parties)}
}

// Listen lets a party listen.
func (f *Forwarder) Listen(party int) api.Errno {
	switch {
	case !f.has(party):
		return api.ErrArg
	case f.parties[party] != nil:
		return api.ErrState
	}
	f.parties[party] = &listener{}
	return api.OK
}

// Quiet lets a party listen no more.
func (f *Forwarder) Quiet(party int) api.Errno {
	switch {
	case !f.has(party):
		return api.ErrArg
	case f.parties[party] == nil:
		return api.ErrClosed
	}
	f.parties[party] = nil
	return api.OK
}

// Hear hands a packet to all others that listen; how many took it.
func (f *Forwarder) Hear(party int, p Packet) (int, api.Errno) {
	if !f.has(party) {
		return 0, api.ErrArg
	}
	if err := fault(p); err != api.OK {
		return 0, err
	}
	if f.parties[party] == nil {
		return 0, api.ErrClosed
	}
	p.Data = slices.Clone(p.Data)
	return f.hand(party, p), api.OK
}

// Pull is the packet that waits longest.
func (f *Forwarder) Pull(party int) (Packet, bool) {
	l := f.listener(party)
	if l == nil || len(l.waiting) == 0 {
		return Packet{}, false
	}
	p := l.waiting[0]
	l.waiting = slices.Delete(l.waiting, 0, 1)
	// The same octets may wait for others, too.
	p.Data = slices.Clone(p.Data)
	return p, true
}

// Lost is how many packets a party lost.
func (f *Forwarder) Lost(party int) int {
	l := f.listener(party)
	if l == nil {
		return 0
	}
	return l.lost
}

// Waiting is how many packets wait for a party.
func (f *Forwarder) Waiting(party int) int {
	l := f.listener(party)
	if l == nil {
		return 0
	}
	return len(l.waiting)
}

// has tells that there is such a party.
func (f *Forwarder) has(party int) bool { return f != nil && party >= 0 && party < len(f.parties) }

// listener is a party that listens, or nil.
func (f *Forwarder) listener(party int) *listener {
	if !f.has(party) {
		return nil
	}
	return f.parties[party]
}

// hand hands a packet to all that listen but the party that says it; how many took it.
func (f *Forwarder) hand(party int, p Packet) int {
	taken := 0
	for other, l := range f.parties {
		if l != nil && other != party && l.take(party, p, f.room) {
			taken++
		}
	}
	return taken
}
