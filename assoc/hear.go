package assoc

import (
	"bollard/api"
	"bollard/cookie"
	"bollard/packet"
	"bollard/tlv"
	"bollard/xfer"
)

const (
	// room is how many octets this side has room for.
	room = 65536
	// keySize is how many octets a cookie's key has.
	keySize = 16
	// cookieKind is the kind of the parameter that holds a cookie.
	cookieKind = 7
	// reflected is the flag of a chunk that comes under the tag of the side that sent it: that one knew no other.
	reflected = 1
)

// heard is a packet while it is gone through.
type heard struct {
	tag     uint32
	now     int
	draw    uint32
	answers [][]byte
	ends    bool // is what follows not looked at?
}

// Hear takes in a packet, and answers.
func (a *Assoc) Hear(b []byte, now int, draw uint32) ([][]byte, api.Errno) {
	if a == nil {
		return nil, api.ErrArg
	}
	p, err := packet.Decode(a.table, b)
	if err != api.OK {
		return nil, err
	}
	if p.From != a.config.Peer || p.To != a.config.Port {
		return nil, api.ErrArg
	}
	h := heard{tag: p.Tag, now: bounded(now), draw: draw}
	for _, c := range p.Chunks {
		if err := a.take(&h, c); err != api.OK {
			return h.answers, err
		}
		if h.ends {
			break
		}
	}
	return h.answers, api.OK
}

// take takes in a chunk. An Init and a CookieEcho come under tags of their own, all others under one that both sides know.
func (a *Assoc) take(h *heard, c api.Chunk) api.Errno {
	switch c.Kind {
	case api.Init:
		return a.invited(h, c)
	case api.CookieEcho:
		return a.echoed(h, c)
	}
	if !a.fits(h.tag, c) {
		return api.ErrTag
	}
	return a.takeKnown(h, c)
}

// fits tells whether a chunk comes under the tag that it is to come under.
func (a *Assoc) fits(tag uint32, c api.Chunk) bool {
	if c.Flags&reflected != 0 && (c.Kind == api.ShutdownDone || c.Kind == api.Abort) {
		return a.lasts() && tag == a.tags[1] && tag != 0
	}
	return a.lasts() && tag == a.tags[0]
}

// takeKnown takes in a chunk of the other side that this one knows.
func (a *Assoc) takeKnown(h *heard, c api.Chunk) api.Errno {
	switch c.Kind {
	case api.InitAck:
		return a.welcomed(h, c)
	case api.CookieAck:
		return a.confirmed()
	case api.Data, api.Sack, api.Forward:
		return a.transferred(h, c)
	case api.Heartbeat:
		a.answer(h, a.tags[1], api.Chunk{Kind: api.HeartbeatAck, Params: c.Params})
	case api.Abort:
		a.finish()
	case api.Shutdown:
		return a.shutHeard(h)
	case api.ShutdownAck:
		return a.shutAcked(h)
	case api.ShutdownDone:
		return a.shutDone()
	case api.Reset:
		return a.reset(h, c)
	case api.HeartbeatAck, api.Error:
	default:
		h.ends, _ = tlv.ChunkAction(c.Kind)
	}
	return api.OK
}

// answer answers a chunk in a packet of its own.
func (a *Assoc) answer(h *heard, tag uint32, c api.Chunk) {
	h.answers = append(h.answers, a.packets(tag, []api.Chunk{c})...)
}

// opening is what this side tells of itself as it begins.
func (a *Assoc) opening(kind uint8, tag uint32, out int, params ...api.Param) api.Chunk {
	return api.Chunk{Kind: kind, A: tag, B: room, Out: uint16(out), In: uint16(a.config.Streams), Ppid: tag, Params: params}
}

// streams is how many streams both sides have, the other one having n.
func (a *Assoc) streams(n uint16) int { return min(a.config.Streams, int(n)) }

// lacks tells that an Init or an InitAck has no tag, or no streams.
func lacks(c api.Chunk) bool { return c.A == 0 || c.Out == 0 || c.In == 0 }

// invited answers an Init. All that is needed later goes out in a cookie: nothing is kept of a place that may never answer.
func (a *Assoc) invited(h *heard, c api.Chunk) api.Errno {
	switch {
	case h.tag != 0:
		return api.ErrTag
	case lacks(c) || len(a.config.Key) != keySize:
		return api.ErrArg
	case a.state >= ShutSent:
		return api.ErrState
	}
	tag := drawn(h.draw)
	if a.begins() {
		tag = a.tags[0]
	}
	out := a.streams(c.In)
	b, _ := cookie.Encode(a.config.Key, cookie.State{ // such a key and such times have a cookie
		Made: h.now, Life: a.config.Life,
		Tag: tag, Peer: c.A, First: tag, PeerFirst: c.Ppid, Room: c.B,
		Out: uint16(out), In: uint16(a.streams(c.Out)),
		Ties: a.tags,
	})
	a.answer(h, c.A, a.opening(api.InitAck, tag, out, api.Param{Kind: cookieKind, V: b}))
	return api.OK
}

// echoed takes in a cookie that came back.
func (a *Assoc) echoed(h *heard, c api.Chunk) api.Errno {
	s, err := cookie.Check(a.config.Key, c.Data, h.now)
	if err != api.OK {
		return err
	}
	tags := [2]uint32{s.Tag, s.Peer}
	switch {
	case h.tag != s.Tag || s.Tag == 0:
		return api.ErrTag
	case a.opensBy(s):
		a.connect(tags, xfer.Config{First: s.First, PeerFirst: s.PeerFirst, Room: s.Room, Out: int(s.Out), In: int(s.In)})
		a.state = Open
		a.voice.stand()
	case a.tags != tags || a.state == Done:
		return api.ErrState
	}
	a.answer(h, a.tags[1], api.Chunk{Kind: api.CookieAck})
	return api.OK
}

// opensBy tells whether a cookie opens the association. One that is open is opened anew by a cookie that was made of it as it is: the other side has begun again since.
func (a *Assoc) opensBy(s cookie.State) bool {
	switch a.state {
	case Closed, Waiting, Echoed:
		return true
	case Open:
		return s.Ties == a.tags && s.Tag != a.tags[0]
	}
	return false
}

// welcomed takes in the answer to this side's Init.
func (a *Assoc) welcomed(h *heard, c api.Chunk) api.Errno {
	place := tlv.Find(c.Params, cookieKind)
	switch {
	case a.state != Waiting:
		return api.ErrState
	case lacks(c) || place < 0:
		return api.ErrArg
	}
	a.connect([2]uint32{a.tags[0], c.A}, xfer.Config{First: a.tags[0], PeerFirst: c.Ppid, Room: c.B, Out: a.streams(c.In), In: a.streams(c.Out)})
	a.state = Echoed
	a.voice.say(ofBeginning, api.Chunk{Kind: api.CookieEcho, Data: c.Params[place].V}, h.now)
	return api.OK
}

// confirmed takes in that the other side is open.
func (a *Assoc) confirmed() api.Errno {
	if a.state != Echoed {
		return api.ErrState
	}
	a.state = Open
	a.voice.hush(ofBeginning)
	return api.OK
}

// transferred takes in what the End is for.
func (a *Assoc) transferred(h *heard, c api.Chunk) api.Errno {
	if a.begins() {
		return api.ErrState
	}
	if err := a.end.Hear(c, h.now); err != api.OK {
		return err
	}
	// Who sends on has not heard that this side ends.
	if a.state == ShutSent && c.Kind == api.Data {
		a.answer(h, a.tags[1], a.shutdown())
	}
	return api.OK
}

// shutHeard takes in that the other side ends.
func (a *Assoc) shutHeard(h *heard) api.Errno {
	switch a.state {
	case Waiting, Echoed:
		return api.ErrState
	case Open, Closing:
		a.state = ShutHeard
	case ShutSent:
		a.shut(ShutAcked, api.Chunk{Kind: api.ShutdownAck}, h.now)
	}
	return api.OK
}

// shutAcked takes in that the other side has nothing to send any more.
func (a *Assoc) shutAcked(h *heard) api.Errno {
	if a.state != ShutSent && a.state != ShutAcked {
		return api.ErrState
	}
	a.answer(h, a.tags[1], api.Chunk{Kind: api.ShutdownDone})
	a.finish()
	return api.OK
}

// shutDone takes in that the other side is done.
func (a *Assoc) shutDone() api.Errno {
	if a.state != ShutAcked {
		return api.ErrState
	}
	a.finish()
	return api.OK
}
