package sfu_test

import (
	"fmt"
	"slices"
	"strings"
	"testing"

	"bollard/api"
	"bollard/assoc"
	"bollard/dcep"
	"bollard/octet"
)

// dcepOpening is an opening of a label, of a kind.
func dcepOpening(label string, kind uint8) dcep.Opening {
	return dcep.Opening{Kind: kind, Limit: 9, Label: label}
}

// asking is a Reset that asks for streams to be restarted, once all up to a number has come.
func asking(number, last uint32, streams ...uint16) api.Chunk {
	b := octet.Put32(octet.Put32(nil, number), last)
	for _, stream := range streams {
		b = octet.Put16(b, stream)
	}
	return api.Chunk{Kind: api.Reset, Params: []api.Param{{Kind: 13, V: b}}}
}

// asked are the streams that Resets ask for.
func asked(l []api.Chunk) [][]uint16 {
	var found [][]uint16
	for _, c := range of(l, api.Reset) {
		for _, p := range c.Params {
			if p.Kind != 13 {
				continue
			}
			var streams []uint16
			for i := 8; i < len(p.V); i += 2 {
				streams = append(streams, uint16(p.V[i])<<8|uint16(p.V[i+1]))
			}
			found = append(found, streams)
		}
	}
	return found
}

// P21.4: the other side restarts a channel's stream: the subscription ends, with what of it waits; this side restarts the stream, too; as soon as both are done it is free.
func TestChannelEnds(t *testing.T) {
	for _, kind := range kinds {
		h, l := listening(t, kind, 9)
		l[0].opens(4, dcep.Opening{Label: "b"})
		l[1].opens(6, dcep.Opening{Label: "b"})
		exchange(t, 0, l[1], seat{h, 1})
		l[1].has()
		l[0].says(0, "a")
		l[0].says(4, "b")
		l[0].says(0, "a")
		exchange(t, 0, l[0], seat{h, 0})
		h.are(1, assoc.Open, 3)
		l[1].restarts(2)
		bring(t, 0, l[1], seat{h, 1})
		h.are(1, assoc.Open, 1)
		l[0].says(0, "gone")
		exchange(t, 0, l[0], seat{h, 0})
		h.are(1, assoc.Open, 1)

		l[1].opens(2, dcep.Opening{Label: "early"}) // this side's restart is not done yet
		bring(t, 0, l[1], seat{h, 1})
		m := chunks(t, h.tell(1, 0))
		equal(t, "asked", asked(m), [][]uint16{{2}})
		for _, c := range of(m, api.Data) {
			equal(t, "stream", c.Out, 6)
		}
		for _, c := range of(m, api.Reset) {
			want(t, l[1].take(packedBack(t, l[1], c), 0), api.OK)
		}
		equal(t, "performed", l[1].performed, []uint16{2})
		equal(t, "restarted", l[1].restarted, []uint16{2})
		l[1].messages = nil
		exchange(t, 0, l[1], seat{h, 1})
		isAnswered(t, l[1])
		l[1].opens(2, dcepOpening("a", kind))
		exchange(t, 0, l[1], seat{h, 1})
		isAnswered(t, l[1], 2)
		l[0].says(0, "anew")
		exchange(t, 0, l[0], seat{h, 0})
		exchange(t, 0, l[1], seat{h, 1})
		if len(l[1].messages) != 1 || string(l[1].messages[0].Data) != "anew" {
			t.Errorf("of the kind %d there came %v", kind, l[1].messages)
		}
	}
}

// packedBack is a chunk of the server in a packet for a hand.
func packedBack(t *testing.T, x *hand, c api.Chunk) []byte {
	t.Helper()
	mine, _ := x.a.Tags()
	return packedUnder(t, mine, 5000, 6000, c)
}

// P21.4: a subscription that failed ends, too.
func TestFailedChannelEnds(t *testing.T) {
	h, l := listening(t, 0, 0)
	for range 5 {
		l[0].says(0, "x")
	}
	exchange(t, 0, l[0], seat{h, 0})
	equal(t, "Failed", h.s.Failed(1, "a"), true)
	l[1].restarts(2)
	bring(t, 0, l[1], seat{h, 1})
	equal(t, "Failed", h.s.Failed(1, "a"), false)
	h.are(1, assoc.Open, 0)
	exchange(t, 0, l[1], seat{h, 1})
	l[1].has()
}

// P21.4: as long as another channel of that label is open, the subscription stays, with what of it waits.
func TestOneOfTwoChannelsEnds(t *testing.T) {
	for _, ending := range []uint16{2, 6} {
		h, l := listening(t, 0, 0)
		l[1].opens(6, dcep.Opening{Label: "a"})
		exchange(t, 0, l[1], seat{h, 1})
		l[1].has()
		l[0].says(0, "x")
		exchange(t, 0, l[0], seat{h, 0})
		l[1].restarts(ending)
		bring(t, 0, l[1], seat{h, 1})
		h.are(1, assoc.Open, 1)
		l[0].says(0, "y")
		exchange(t, 0, l[0], seat{h, 0})
		h.are(1, assoc.Open, 2)
		exchange(t, 0, l[1], seat{h, 1})
		left := 8 - ending
		l[1].has(text(left, "x"), text(left, "y"))
		l[0].says(0, "z")
		exchange(t, 0, l[0], seat{h, 0})
		l[1].restarts(left)
		bring(t, 0, l[1], seat{h, 1})
		h.are(1, assoc.Open, 0)
		exchange(t, 0, l[1], seat{h, 1})
		l[1].has()
	}
}

// P21.4: several streams may be restarted at once: each channel ends, those of one label together.
func TestSeveralChannelsEnd(t *testing.T) {
	h, l := listening(t, 0, 0)
	for stream, label := range map[uint16]string{0: "b", 4: "a", 6: "chat"} {
		l[1].opens(stream, dcep.Opening{Label: label})
		exchange(t, 0, l[1], seat{h, 1})
	}
	l[1].has()
	for i, label := range []string{"a", "b", "chat"} {
		if i > 0 {
			l[0].opens(uint16(2*i), dcep.Opening{Label: label})
		}
		l[0].says(uint16(2*i), label)
	}
	exchange(t, 0, l[0], seat{h, 0})
	h.are(1, assoc.Open, 3)
	l[1].restarts(4, 0, 2, 7, 9, 0)
	bring(t, 0, l[1], seat{h, 1})
	h.are(1, assoc.Open, 1)
	l[1].messages, l[1].restarted = nil, nil
	exchange(t, 0, l[1], seat{h, 1})
	l[1].has(text(6, "chat"))
	equal(t, "restarted", l[1].restarted, []uint16{4, 0, 2})
	for stream, label := range map[uint16]string{0: "b", 4: "a", 2: "none"} {
		l[1].opens(stream, dcep.Opening{Label: label})
		exchange(t, 0, l[1], seat{h, 1})
		isAnswered(t, l[1], stream)
	}
}

// P21.4: of a stream that is free, or none, a restart is answered, and nothing follows.
func TestRestartOfNoChannel(t *testing.T) {
	h, l := listening(t, 0, 0)
	l[0].says(0, "x")
	exchange(t, 0, l[0], seat{h, 0})
	l[1].restarts(0, 1, 3, 4, 7, 8, 64, 65535)
	bring(t, 0, l[1], seat{h, 1})
	h.are(1, assoc.Open, 1)
	exchange(t, 0, l[1], seat{h, 1})
	equal(t, "performed", l[1].performed, []uint16{0, 1, 3, 4, 7, 8, 64, 65535})
	equal(t, "restarted", len(l[1].restarted), 0)
	l[1].has(text(2, "x"))
}

// P21.4: a stream that is restarted once more, as this side's own restart is not done yet, changes nothing more.
func TestRestartedTwice(t *testing.T) {
	h, l := listening(t, 0, 0)
	l[1].opens(4, dcep.Opening{Label: "a"})
	exchange(t, 0, l[1], seat{h, 1})
	l[1].restarts(2)
	bring(t, 0, l[1], seat{h, 1})
	number := l[1].number()
	want(t, h.hear(1, l[1].packed(6000, 5000, asking(number+1, number-1, 2)), 0), api.OK)
	l[0].says(0, "x")
	exchange(t, 0, l[0], seat{h, 0})
	h.are(1, assoc.Open, 1)
	l[1].messages = nil
	exchange(t, 0, l[1], seat{h, 1})
	equal(t, "restarted", l[1].restarted, []uint16{2})
	l[1].has(text(4, "x"))
}

// number is that of the last restart that a hand asked for.
func (h *hand) number() uint32 {
	tag, _ := h.a.Tags()
	return tag + 1
}

// ends lets a hand restart a stream, and hear that this is done, but not what the server asks for.
func (h *hand) ends(x *host, party int, stream uint16) {
	h.t.Helper()
	h.restarts(stream)
	bring(h.t, 0, h, seat{x, party})
	done := len(h.performed)
	for _, b := range x.tell(party, 0) {
		if c := chunks(h.t, [][]byte{b})[0]; c.Kind == api.Reset && c.Params[0].Kind == 16 {
			h.take(b, 0)
		}
	}
	equal(h.t, "restarts that are done", len(h.performed), done+1)
}

// P21.4: a restart waits until the one that is under way is done.
func TestRestartsWait(t *testing.T) {
	h, l := listening(t, 0, 0)
	for stream, label := range map[uint16]string{0: "b", 4: "c", 6: "d"} {
		l[1].opens(stream, dcep.Opening{Label: label})
		exchange(t, 0, l[1], seat{h, 1})
	}
	for _, stream := range []uint16{2, 6, 0} {
		l[1].ends(h, 1, stream)
	}
	equal(t, "asked", asked(chunks(t, h.tell(1, 0))), nil)
	h.tick(2999)
	equal(t, "asked then", asked(chunks(t, h.tell(1, 2999))), nil)
	h.tick(3000)
	got := h.tell(1, 3000)
	equal(t, "asked then", asked(chunks(t, got)), [][]uint16{{2}})
	for _, b := range got {
		want(t, l[1].take(b, 3000), api.OK)
	}
	bring(t, 3000, l[1], seat{h, 1})
	got = h.tell(1, 3000)
	equal(t, "asked behind it", asked(chunks(t, got)), [][]uint16{{6, 0}})
	for _, b := range got {
		want(t, l[1].take(b, 3000), api.OK)
	}
	exchange(t, 3000, l[1], seat{h, 1})
	equal(t, "restarted", l[1].restarted, []uint16{2, 6, 0})
	l[1].messages = nil
	for _, stream := range []uint16{0, 2, 6} {
		l[1].opens(stream, dcep.Opening{Label: fmt.Sprint(stream)})
	}
	exchange(t, 3000, l[1], seat{h, 1})
	isAnswered(t, l[1], 0, 2, 6)
}

// P21.4: where the association is not Open any more a channel ends all the same; that its stream be restarted can't be asked for.
func TestChannelEndsAsAllEnds(t *testing.T) {
	h, l := listening(t, 0, 0)
	l[0].says(0, "x")
	exchange(t, 0, l[0], seat{h, 0})
	l[1].a.Close(0)
	bring(t, 0, l[1], seat{h, 1})
	h.are(1, assoc.ShutHeard, 1)
	n := l[1].number()
	want(t, h.hear(1, l[1].packed(6000, 5000, asking(n, n-1, 2)), 0), api.OK)
	h.are(1, assoc.ShutHeard, 0)
	got := chunks(t, h.tell(1, 0))
	equal(t, "asked", asked(got), nil)
	equal(t, "ShutdownAcks", len(of(got, api.ShutdownAck)), 1)
}

// P21.4: restarts that were heard in a packet are taken ahead of its messages: what was said on the stream goes to nobody.
func TestRestartAheadOfMessages(t *testing.T) {
	h, l := listening(t, 0, 0)
	l[0].says(0, "x")
	l[0].says(0, "y")
	data := of(chunks(t, l[0].give(0)), api.Data)
	n := l[0].number()
	want(t, h.hear(0, l[0].packed(6000, 5000, append(data, asking(n, data[1].A, 0))...), 0), api.OK)
	h.are(0, assoc.Open, 0)
	exchange(t, 0, l[1], seat{h, 1})
	l[1].has()
}

// P21.4: this side's restart that is done in a packet is taken ahead of its messages: an opening in it comes on a stream that is free.
func TestDoneAheadOfMessages(t *testing.T) {
	h, l := listening(t, 0, 0)
	l[1].restarts(2)
	bring(t, 0, l[1], seat{h, 1})
	for _, b := range h.tell(1, 0) {
		want(t, l[1].take(b, 0), api.OK)
	}
	l[1].opens(2, dcep.Opening{Label: "a"})
	l[1].says(2, "x")
	var together []api.Chunk
	for _, c := range chunks(t, l[1].give(0)) {
		if c.Kind == api.Reset || c.Kind == api.Data {
			together = append(together, c)
		}
	}
	slices.SortFunc(together, func(a, b api.Chunk) int { return int(a.Kind) - int(b.Kind) }) // the Reset is the last one
	equal(t, "chunks", len(together), 3)
	l[0].opens(2, dcep.Opening{Label: "b"})
	l[2].opens(0, dcep.Opening{Label: "a"})
	exchange(t, 0, l[2], seat{h, 2})
	want(t, h.hear(1, l[1].packed(6000, 5000, together...), 0), api.OK)
	h.are(1, assoc.Open, 2) // parties 0 and 2 hear of it
	exchange(t, 0, l[1], seat{h, 1})
	isAnswered(t, l[1], 2)
}

// P21.4: what waits for room goes away, too, as its subscription ends; what waits of another label is sent then.
func TestHeldItemEnds(t *testing.T) {
	for _, held := range []string{"a", "b"} {
		h, l := listening(t, 0, 0)
		l[1].opens(4, dcep.Opening{Label: "b"})
		exchange(t, 0, l[1], seat{h, 1})
		l[0].opens(4, dcep.Opening{Label: "b"})
		stuff(t, h, l)
		streams := map[string]uint16{"a": 0, "b": 4}
		for _, label := range []string{held, "a", "b", "a"} {
			l[0].says(streams[label], "held "+label)
		}
		exchange(t, 0, l[0], seat{h, 0})
		h.tell(1, 0)
		h.are(1, assoc.Open, 4)
		number := l[1].number()
		want(t, h.hear(1, l[1].packed(6000, 5000, asking(number, number-1, 2)), 0), api.OK)
		left := map[string]int{"a": 1, "b": 2}[held]
		h.are(1, assoc.Open, left)
		goes(t, h, l)
		found := slices.DeleteFunc(l[1].messages, func(m api.Message) bool { return !strings.HasPrefix(string(m.Data), "held") })
		equal(t, "what came", len(found), left)
		for _, m := range found {
			if !sameMessages(m, text(4, "held b")) {
				t.Errorf("there came %v", m)
			}
		}
	}
}

// P21.4: the answer to an opening that waits for room is not told any more once its channel has ended.
func TestAnswerEnds(t *testing.T) {
	h, l := listening(t, 0, 0)
	stuff(t, h, l)
	l[1].opens(4, dcep.Opening{Label: "b"})
	l[1].opens(6, dcep.Opening{Label: "c"})
	for _, b := range l[1].give(0) {
		want(t, h.hear(1, b, 0), api.OK)
	}
	l[0].says(0, "x")
	exchange(t, 0, l[0], seat{h, 0})
	number := l[1].number()
	want(t, h.hear(1, l[1].packed(6000, 5000, asking(number, number-1, 4)), 0), api.OK)
	goes(t, h, l)
	found := slices.DeleteFunc(l[1].messages, func(m api.Message) bool { return m.Ppid != 50 })
	if !slices.EqualFunc(found, []api.Message{{Stream: 6, Ppid: 50, Data: []byte{2}}}, sameMessages) {
		t.Errorf("there came %v", found)
	}
}
