package sfu_test

import (
	"fmt"
	"slices"
	"strings"
	"testing"

	"bollard/api"
	"bollard/dcep"
)

// kinds are those of channels.
var kinds = []uint8{0, 1, 2, 128, 129, 130}

// isAnswered asks that an answer to an opening came on a stream, in order and for good, and nothing else.
func isAnswered(t *testing.T, x *hand, streams ...uint16) {
	t.Helper()
	var want []api.Message
	for _, stream := range streams {
		want = append(want, api.Message{Stream: stream, Ppid: 50, Data: []byte{2}})
	}
	if !slices.EqualFunc(x.messages, want, sameMessages) {
		t.Fatalf("there came %v, want %v", x.messages, want)
	}
	x.messages = nil
}

// P21.1: a channel that is opened is answered, and subscribed to the topic of its label, by its Kind in the mode Ordered or Oldest: as soon as it is heard of, whether the answer has come or not.
func TestOpenedIsSubscribed(t *testing.T) {
	for _, kind := range kinds {
		h := newHost(t, config())
		l := all(t, h)
		l[1].opens(0, dcep.Opening{Kind: kind, Priority: 7, Limit: 1000, Label: "a", Protocol: "p"})
		bring(t, 0, l[1], seat{h, 1})
		l[0].opens(0, dcep.Opening{Label: "a"})
		for _, s := range []string{"0", "1", "2", "3", "4", "5"} {
			l[0].says(0, s)
		}
		bring(t, 0, l[0], seat{h, 0})
		first, failed, lost := 2, false, 2
		if kind == 0 {
			first, failed, lost = 0, true, 0
		}
		if h.s.Failed(1, "a") != failed || h.s.Lost(1) != lost || h.s.Held() != 4 || h.s.Failed(0, "a") || h.s.Lost(0) != 0 {
			t.Errorf("kind %d: Failed is %v, Lost %d, Held %d", kind, h.s.Failed(1, "a"), h.s.Lost(1), h.s.Held())
		}
		exchange(t, 0, l[1], seat{h, 1})
		isOf := api.Message{Ppid: 51, Unordered: kind >= 128}
		var want []api.Message
		for i := range 4 {
			isOf.Data = fmt.Append(nil, first+i)
			want = append(want, isOf)
		}
		equal(t, "the answer", l[1].messages[0], api.Message{Ppid: 50, Data: []byte{2}})
		l[1].has(want...)
	}
}

// P21.1: a channel without a label, or with one that has a subscription already, is open and answered, without a subscription of its own.
func TestOpenedWithoutSubscription(t *testing.T) {
	h := newHost(t, config())
	l := all(t, h)
	for stream, o := range map[uint16]dcep.Opening{0: {}, 2: {Label: "a"}, 4: {}, 6: {Protocol: "a"}} {
		l[1].opens(stream, o)
		exchange(t, 0, l[1], seat{h, 1})
		isAnswered(t, l[1], stream)
	}
	l[1].opens(0, dcep.Opening{Label: "b"}) // it is open already
	exchange(t, 0, l[1], seat{h, 1})
	isAnswered(t, l[1])

	l[0].opens(0, dcep.Opening{})
	l[0].opens(2, dcep.Opening{Label: "b"})
	l[0].opens(4, dcep.Opening{Label: "a"})
	for stream := range uint16(3) {
		l[0].says(2*stream, "x")
	}
	exchange(t, 0, l[0], seat{h, 0})
	h.are(1, 3, 1)
	exchange(t, 0, l[1], seat{h, 1})
	l[1].has(text(2, "x"))
}

// P21.1: a second channel of a label is refused by the relay: the subscription stays as it was, in its mode; what is heard comes on the lowest stream.
func TestTwoChannelsOfOneLabel(t *testing.T) {
	for _, c := range []struct {
		kinds  [2]uint8
		failed bool
	}{{[2]uint8{0, 1}, true}, {[2]uint8{1, 0}, false}} {
		h := newHost(t, config())
		l := all(t, h)
		l[0].opens(0, dcep.Opening{Label: "a"})
		l[1].opens(4, dcep.Opening{Label: "a", Kind: c.kinds[0], Limit: 9})
		exchange(t, 0, l[1], seat{h, 1})
		l[1].opens(2, dcep.Opening{Label: "a", Kind: c.kinds[1], Limit: 9})
		exchange(t, 0, l[1], seat{h, 1})
		isAnswered(t, l[1], 4, 2)
		for range 5 {
			l[0].says(0, "x")
		}
		exchange(t, 0, l[0], seat{h, 0})
		equal(t, "Failed", h.s.Failed(1, "a"), c.failed)
		exchange(t, 0, l[1], seat{h, 1})
		l[1].has(text(2, "x"), text(2, "x"), text(2, "x"), text(2, "x"))
		l[1].says(4, "y") // what comes on either is published
		l[1].says(2, "z")
		exchange(t, 0, l[1], seat{h, 1})
		exchange(t, 0, l[0], seat{h, 0})
		l[0].has(text(0, "y"), text(0, "z"))
	}
}

// P21.1: a subscription that has failed is had anew as soon as another channel of its label is opened.
func TestOpenedAnewBehindFailure(t *testing.T) {
	h := newHost(t, config())
	l := all(t, h)
	l[0].opens(0, dcep.Opening{Label: "a"})
	l[1].opens(2, dcep.Opening{Label: "a"})
	exchange(t, 0, l[1], seat{h, 1})
	l[1].has()
	for range 6 {
		l[0].says(0, "x")
	}
	exchange(t, 0, l[0], seat{h, 0})
	equal(t, "Failed", h.s.Failed(1, "a"), true)
	exchange(t, 0, l[1], seat{h, 1})
	l[1].has(text(2, "x"), text(2, "x"), text(2, "x"), text(2, "x"))
	l[0].says(0, "lost")
	exchange(t, 0, l[0], seat{h, 0})
	h.are(1, 3, 0)
	l[1].opens(4, dcep.Opening{Label: "a", Kind: 129, Limit: 3})
	exchange(t, 0, l[1], seat{h, 1})
	equal(t, "Failed", h.s.Failed(1, "a"), false)
	l[1].has()
	l[0].says(0, "y")
	exchange(t, 0, l[0], seat{h, 0})
	exchange(t, 0, l[1], seat{h, 1})
	l[1].has(text(2, "y"))
}

// P21.1: openings that may not be are neither answered nor subscribed, and what is said on a stream that is free, or of no form, is not published.
func TestWrongMessages(t *testing.T) {
	h := newHost(t, config())
	l := all(t, h)
	l[1].opens(0, dcep.Opening{Label: "a"})
	exchange(t, 0, l[1], seat{h, 1})
	isAnswered(t, l[1], 0)
	good := encoded(t, dcep.Opening{Label: "a"})
	for _, m := range []api.Message{
		{Stream: 1, Ppid: 50, Data: good},            // one of the server's
		{Stream: 2, Ppid: 50, Data: good[:12]},       // cut off
		{Stream: 2, Ppid: 50, Data: append(good, 1)}, // too long
		{Stream: 2, Ppid: 50, Data: []byte{2}},       // an answer to nothing
		{Stream: 2, Ppid: 50, Data: []byte{3, 9, 0, 0, 0, 0, 0, 0, 0, 1, 0, 0, 97}},
		text(2, "free"),
		{Stream: 0, Ppid: 52, Data: []byte("none")},
	} {
		l[0].send(m.Stream, m.Ppid, m.Data)
		exchange(t, 0, l[0], seat{h, 0})
		isAnswered(t, l[0])
	}
	l[0].opens(2, dcep.Opening{Label: "a"})
	l[0].send(2, 52, []byte("none"))
	l[0].send(2, 51, []byte("x"))
	exchange(t, 0, l[0], seat{h, 0})
	isAnswered(t, l[0], 2)
	exchange(t, 0, l[1], seat{h, 1})
	l[1].has(text(0, "x"))
}

// P21.1: what comes on a channel is published to the topic of its label: to all others that have a channel of it, as text or octets, an empty one, too.
func TestPublished(t *testing.T) {
	c := config()
	c.Parties = 5
	h := newHost(t, c)
	l := all(t, h)
	for party, o := range map[int][]string{0: {"a", "b"}, 1: {"b", "a"}, 2: {"a"}, 3: {"b", "A", "aa", ""}} {
		for i, label := range o {
			l[party].opens(uint16(2*i), dcep.Opening{Label: label})
		}
		exchange(t, 0, l[party], seat{h, party})
		l[party].has()
	}
	said := []api.Message{
		{Ppid: 51, Data: []byte("text")}, {Ppid: 53, Data: []byte{0, 255}}, {Ppid: 56, Data: []byte{0}}, {Ppid: 57, Data: []byte{0}},
		{Ppid: 51, Data: []byte{255}}, {Ppid: 53, Data: []byte{2}}, {Ppid: 51, Data: []byte(strings.Repeat("long", 4096))},
	}
	for _, m := range said {
		l[0].send(0, m.Ppid, m.Data)
		exchange(t, 0, l[0], seat{h, 0})
		for party := 1; party < 5; party++ {
			exchange(t, 0, l[party], seat{h, party})
		}
		l[0].has()
		m.Stream = 2
		l[1].has(m)
		m.Stream = 0
		l[2].has(m)
		l[3].has()
		l[4].has()
	}
	l[0].send(0, 56, []byte{9}) // its octet is not looked at
	exchange(t, 0, l[0], seat{h, 0})
	exchange(t, 0, l[1], seat{h, 1})
	l[1].has(api.Message{Stream: 2, Ppid: 56, Data: []byte{0}})
}

// P21.1: items of several labels come each on the channel of its label, in the order in which they were published.
func TestSeveralLabels(t *testing.T) {
	h := newHost(t, config())
	l := all(t, h)
	for i, label := range []string{"a", "b", "chat"} {
		l[0].opens(uint16(2*i), dcep.Opening{Label: label})
		l[1].opens(uint16(4-2*i), dcep.Opening{Label: label, Kind: kinds[i], Limit: 9})
	}
	exchange(t, 0, l[1], seat{h, 1})
	l[1].has()
	for _, stream := range []uint16{4, 0, 2, 0} {
		l[0].says(stream, "x")
	}
	bring(t, 0, l[0], seat{h, 0})
	var streams []uint16
	for _, c := range of(chunks(t, h.tell(1, 0)), api.Data) {
		streams = append(streams, c.Out)
	}
	equal(t, "the streams", streams, []uint16{0, 4, 2, 4})
}

// listening is a server whose party 1 has a channel of the label a, of a kind and a limit, on the stream 2; party 0 speaks.
func listening(t *testing.T, kind uint8, limit uint32) (*host, []*hand) {
	t.Helper()
	h := newHost(t, config())
	l := all(t, h)
	l[0].opens(0, dcep.Opening{Label: "a"})
	exchange(t, 0, l[0], seat{h, 0})
	l[1].opens(2, dcep.Opening{Label: "a", Kind: kind, Limit: limit})
	exchange(t, 0, l[1], seat{h, 1})
	l[1].has()
	return h, l
}

// flights lets what the server tells a party be lost, again and again, until it is given up, or often enough; how many times Data was told.
func flights(t *testing.T, h *host, party, now int) int {
	t.Helper()
	n := 0
	for range 8 {
		l := chunks(t, h.tell(party, now))
		n += len(of(l, api.Data))
		if len(of(l, api.Forward)) > 0 {
			return n
		}
		now += 60000
		h.tick(now)
	}
	return n
}

// P21.1: what is heard is sent for good, or with the channel's Limit as tries; without order of kinds from 128 on.
func TestSentForGoodOrByTries(t *testing.T) {
	for _, c := range []struct {
		kind  uint8
		limit uint32
		times int
	}{
		{0, 0, 8}, {0, 2, 8}, {128, 0, 8}, {128, 1, 8},
		{1, 0, 1}, {1, 1, 2}, {1, 3, 4}, {129, 0, 1}, {129, 2, 3},
		{1, 1 << 31, 8}, {1, 1<<32 - 1, 8}, {129, 1<<32 - 1, 8},
	} {
		h, l := listening(t, c.kind, c.limit)
		l[0].says(0, "x")
		bring(t, 0, l[0], seat{h, 0})
		if got := flights(t, h, 1, 0); got != c.times {
			t.Errorf("of the kind %d with the limit %d it was told %d times, want %d", c.kind, c.limit, got, c.times)
		}
	}
}

// P21.1: what is heard of the kinds 2 and 130 is sent with the channel's Limit as life, from when it is sent on.
func TestSentByLife(t *testing.T) {
	for _, kind := range []uint8{2, 130} {
		for _, c := range []struct {
			limit uint32
			times int
		}{{0, 1}, {59999, 1}, {60000, 2}, {60001, 2}, {119999, 2}, {120000, 3}, {1<<32 - 1, 8}} {
			h, l := listening(t, kind, c.limit)
			l[0].says(0, "x")
			bring(t, 0, l[0], seat{h, 0})
			if got := flights(t, h, 1, 5); got != c.times {
				t.Errorf("of the kind %d with the limit %d it was told %d times, want %d", kind, c.limit, got, c.times)
			}
		}
	}
}

// longLives are limits of kinds 2 and 130 that an int of 32 bits can't hold.
var longLives = []uint32{1<<31 - 1, 1 << 31, 1<<32 - 1}

// P21.1: a life may be as long as a Limit may be, and ends then.
func TestLongLife(t *testing.T) {
	for _, limit := range longLives {
		for late := range 2 {
			h, l := listening(t, 2, limit)
			l[0].says(0, "x")
			bring(t, 0, l[0], seat{h, 0})
			equal(t, "Data", len(of(chunks(t, h.tell(1, 5)), api.Data)), 1)
			now := 5 + int(limit) + late
			h.tick(now)
			equal(t, "Data", len(of(chunks(t, h.tell(1, now)), api.Data)), 1-late)
		}
	}
}

// P21.1: what is heard has an order, or none, as the channel of the one who hears has it.
func TestOrder(t *testing.T) {
	for _, kind := range kinds {
		h, l := listening(t, kind, 5)
		l[0].says(0, "x")
		l[0].a.Send(api.Message{Unordered: true, Ppid: 53, Data: []byte("y")}, always, always, 0)
		bring(t, 0, l[0], seat{h, 0})
		d := of(chunks(t, h.tell(1, 0)), api.Data)
		if len(d) != 2 || d[0].Ppid != 51 || d[1].Ppid != 53 || d[0].Out != 2 || d[1].Out != 2 {
			t.Fatalf("there is told %v", d)
		}
		for _, c := range d {
			equal(t, "without order", c.Flags, uint8(map[bool]int{true: 7, false: 3}[kind >= 128]))
		}
	}
}

// P21.1: as long as an association has no room an item waits, and all behind it: none is lost, and they come in order as soon as there is room.
func TestWaitsForRoom(t *testing.T) {
	h, l := listening(t, 0, 0)
	l[1].opens(4, dcep.Opening{Label: "b"})
	exchange(t, 0, l[1], seat{h, 1})
	l[0].opens(2, dcep.Opening{Label: "b"})
	long := strings.Repeat("x", 16384)
	for range 4 {
		l[0].says(0, long)
		exchange(t, 0, l[0], seat{h, 0})
	}
	h.are(1, 3, 4)
	h.tell(1, 0) // it goes away: just that much may wait to be sent
	h.are(1, 3, 0)
	for i := range 4 {
		l[0].says(uint16(i%2)*2, fmt.Sprint(i)+long[1:])
	}
	exchange(t, 0, l[0], seat{h, 0})
	h.are(1, 3, 4)
	for range 5 {
		h.tell(1, 0) // what flew makes room for one less at most
		if n := h.s.Held(); n != 4 && n != 3 || h.s.Failed(1, "a") || h.s.Failed(1, "b") {
			t.Fatalf("Held is %d", n)
		}
	}
	for now := 3000; len(l[1].messages) < 9 && now < 3000000; now += 3000 {
		h.tick(now)
		exchange(t, now, l[1], seat{h, 1})
	}
	h.are(1, 3, 0)
	equal(t, "Lost", h.s.Lost(1), 0)
	isThere := []api.Message{text(2, long), text(2, long), text(2, long), text(2, long)}
	for i := range 4 {
		isThere = append(isThere, text(uint16(2+i%2*2), fmt.Sprint(i)+long[1:]))
	}
	l[1].has(isThere...)
}

// stuff lets party 0 say so much on its stream 0 that the association of party 1 has no room for one octet more, and nothing waits; how many messages that are.
func stuff(t *testing.T, h *host, l []*hand) int {
	t.Helper()
	for range 4 {
		l[0].says(0, strings.Repeat("x", 16384))
		exchange(t, 0, l[0], seat{h, 0})
	}
	flown := 0
	for _, c := range of(chunks(t, h.tell(1, 0)), api.Data) {
		flown += len(c.Data)
	}
	l[0].says(0, strings.Repeat("x", flown))
	exchange(t, 0, l[0], seat{h, 0})
	equal(t, "told", len(h.tell(1, 0)), 0)
	h.are(1, 3, 0)
	return 5
}

// goes lets time go by, and party 1 hear, until nothing waits.
func goes(t *testing.T, h *host, l []*hand) {
	t.Helper()
	for now := 3000; h.s.Held() > 0; now += 3000 {
		if now > 300000 {
			t.Fatal("it waits for ever")
		}
		h.tick(now)
		exchange(t, now, l[1], seat{h, 1})
	}
}

// P21.1: what has no room is held, once, however often it is told, down to the last octet.
func TestHeldForRoom(t *testing.T) {
	h, l := listening(t, 0, 0)
	n := stuff(t, h, l)
	for i := range 4 {
		l[0].says(0, "y")
		exchange(t, 0, l[0], seat{h, 0})
		for range 3 {
			equal(t, "told", len(h.tell(1, 0)), 0)
			h.are(1, 3, i+1)
		}
	}
	equal(t, "Failed", h.s.Failed(1, "a"), false)
	goes(t, h, l)
	equal(t, "what came", len(l[1].messages), n+4)
	l[1].messages = l[1].messages[n:]
	l[1].has(text(2, "y"), text(2, "y"), text(2, "y"), text(2, "y"))
}

// P21.1: the answer to an opening waits for room, too, and comes ahead of what is heard on that channel.
func TestAnswerWaitsForRoom(t *testing.T) {
	for _, early := range []bool{false, true} {
		h, l := listening(t, 0, 0)
		stuff(t, h, l)
		l[0].opens(6, dcep.Opening{Label: "b"})
		for _, stream := range []uint16{4, 6} {
			l[1].opens(stream, dcep.Opening{Label: map[uint16]string{4: "b", 6: "c"}[stream]})
		}
		for _, b := range l[1].give(0) {
			want(t, h.hear(1, b, 0), api.OK)
		}
		if early {
			h.tell(1, 0)
		}
		l[0].says(6, "y")
		exchange(t, 0, l[0], seat{h, 0})
		goes(t, h, l)
		found := slices.DeleteFunc(l[1].messages, func(m api.Message) bool { return m.Stream == 2 })
		if !slices.EqualFunc(found, []api.Message{{Stream: 4, Ppid: 50, Data: []byte{2}}, {Stream: 6, Ppid: 50, Data: []byte{2}}, text(4, "y")}, sameMessages) {
			t.Errorf("there came %v", found)
		}
	}
}

// P21.1: an answer that waits for room goes out as soon as there is some, ahead of what is heard and said then, though nothing was heard since.
func TestAnswerAheadOfItems(t *testing.T) {
	h, l := listening(t, 130, 0)
	stuff(t, h, l)
	l[0].opens(6, dcep.Opening{Label: "b"})
	l[1].opens(4, dcep.Opening{Label: "b"})
	for _, b := range l[1].give(0) {
		want(t, h.hear(1, b, 0), api.OK)
	}
	l[0].says(6, "y")
	exchange(t, 0, l[0], seat{h, 0})
	equal(t, "Data", len(of(chunks(t, h.tell(1, 1)), api.Data)), 0) // what had no order is given up
	h.are(1, 3, 1)
	d := of(chunks(t, h.tell(1, 1)), api.Data)
	h.are(1, 3, 0)
	if len(d) != 2 || d[0].Ppid != 50 || d[0].Out != 4 || string(d[1].Data) != "y" || d[1].Out != 4 {
		t.Errorf("there is told %v", d)
	}
}
