package sfu_test

import (
	"slices"
	"testing"

	"bollard/api"
	"bollard/assoc"
	"bollard/audio"
	"bollard/sfu"
)

// parts are what packets are, one by one: the kinds of their chunks, or 100 of sound.
func parts(t *testing.T, l [][]byte) [][]uint8 {
	t.Helper()
	var found [][]uint8
	for _, b := range l {
		if audio.Is(b) {
			found = append(found, []uint8{100})
			continue
		}
		var kinds []uint8
		for _, c := range chunks(t, [][]byte{b}) {
			kinds = append(kinds, c.Kind)
		}
		found = append(found, kinds)
	}
	return found
}

// P21.3: Tell tells what was answered, then what the association tells, what waits in the relay among it, then sound; each once.
func TestTellInOrder(t *testing.T) {
	h, l := listening(t, 0, 0)
	want(t, h.hear(0, sounding(t, audio.Packet{Seq: 1, Data: []byte{1}}), 0), api.OK)
	want(t, h.hear(2, sounding(t, audio.Packet{Seq: 5, Data: []byte{2}}), 0), api.OK)
	l[0].says(0, "x")
	l[0].says(0, "y")
	exchange(t, 0, l[0], seat{h, 0})
	l[1].says(2, "z")
	bring(t, 0, l[1], seat{h, 1})
	beat := api.Chunk{Kind: api.Heartbeat}
	want(t, h.hear(1, l[1].packed(6000, 5000, beat, beat), 0), api.OK)
	h.are(1, assoc.Open, 6) // two items and two sounds for 1, an item for 0, a sound for 2
	got := h.tell(1, 0)
	equal(t, "Tell", parts(t, got), [][]uint8{{api.HeartbeatAck}, {api.HeartbeatAck}, {api.Sack, api.Data, api.Data}, {100}, {100}})
	for i, b := range got[3:] {
		p, err := audio.Decode(b)
		if err != api.OK || !samePackets(p, audio.Packet{Source: uint32(1 + 2*i), Data: []byte{byte(1 + i)}}) {
			t.Errorf("there sounds %v, %v", p, err)
		}
	}
	equal(t, "Tell then", len(h.tell(1, 0)), 0)
	h.are(1, assoc.Open, 2)
}

// P21.3: of an association that is not Open any more what waits in the relay is not told; what was answered, what it tells and sound are.
func TestTellOfOneThatEnds(t *testing.T) {
	h, l := listening(t, 0, 0)
	l[0].says(0, "x")
	exchange(t, 0, l[0], seat{h, 0})
	l[1].a.Close(0)
	bring(t, 0, l[1], seat{h, 1})
	want(t, h.hear(0, sounding(t, audio.Packet{Seq: 1}), 0), api.OK)
	want(t, h.hear(1, l[1].packed(6000, 5000, api.Chunk{Kind: api.Heartbeat}), 0), api.OK)
	h.are(1, assoc.ShutHeard, 3)
	equal(t, "Tell", parts(t, h.tell(1, 0)), [][]uint8{{api.HeartbeatAck}, {api.ShutdownAck}, {100}})
	h.are(1, assoc.ShutAcked, 2)
	want(t, h.hear(0, sounding(t, audio.Packet{Seq: 2}), 0), api.OK)
	equal(t, "Tell", parts(t, h.tell(1, 0)), [][]uint8{{100}})
	l[0].says(0, "y") // its subscription lasts until it is Done
	exchange(t, 0, l[0], seat{h, 0})
	h.are(1, assoc.ShutAcked, 4)
	equal(t, "Tell", len(h.tell(1, 0)), 0)
	exchange(t, 0, l[2], seat{h, 2})
	h.are(1, assoc.ShutAcked, 2)
	want(t, h.hear(1, l[1].packed(6000, 5000, api.Chunk{Kind: api.ShutdownAck}), 0), api.OK)
	h.are(1, assoc.Closed, 0)
	equal(t, "Tell", parts(t, h.tell(1, 0)), [][]uint8{{api.ShutdownDone}})
	l[1].has()
}

// P21.3: what the association tells is told in its time: what was lost, once more.
func TestTellAndTick(t *testing.T) {
	h, l := listening(t, 0, 0)
	l[0].says(0, "x")
	exchange(t, 0, l[0], seat{h, 0})
	equal(t, "Tell", parts(t, h.tell(1, 5)), [][]uint8{{api.Data}})
	for now := range 1005 {
		h.tick(now)
		if len(h.tell(1, now)) > 0 {
			t.Fatalf("at %d there is something to be told", now)
		}
	}
	h.tick(1005)
	equal(t, "Tell", parts(t, h.tell(1, 1005)), [][]uint8{{api.Data}})
}

// P21.3, P1: of no place, and of nil, nothing is told: Done, false, 0.
func TestNoPlace(t *testing.T) {
	c := config()
	c.Parties = 16
	h := newHost(t, c)
	var none *sfu.Server
	for _, party := range append(outside, 0, 3, 15) {
		for _, s := range []*sfu.Server{none, {}, h.s} {
			if s == h.s && !slices.Contains(outside, party) {
				continue
			}
			s.Tick(5)
			if l := s.Tell(party, 5); len(l) != 0 {
				t.Errorf("Tell(%d) is %v", party, l)
			}
			if s.State(party) != assoc.Done || s.Failed(party, "a") || s.Failed(party, "") || s.Lost(party) != 0 || s.Held() != 0 {
				t.Errorf("of %d State is %d, Failed %v, Lost %d, Held %d", party, s.State(party), s.Failed(party, "a"), s.Lost(party), s.Held())
			}
		}
	}
}

// P21.3: of a place that nobody has come to there is nothing but its state.
func TestPlaceOfNobody(t *testing.T) {
	h := newHost(t, config())
	for party := range 3 {
		for _, now := range []int{0, 1, least, greatest} {
			h.tick(now)
			if len(h.tell(party, now)) != 0 || h.s.State(party) != assoc.Closed || h.s.Failed(party, "a") || h.s.Lost(party) != 0 {
				t.Errorf("the place %d has something", party)
			}
		}
	}
	equal(t, "Held", h.s.Held(), 0)
}

// P21.3: Failed and Lost are those of one party, and one label; Held is that of all.
func TestFailedLostHeld(t *testing.T) {
	h, l := listening(t, 0, 0)
	l[2].opens(0, dcepOpening("a", 1))
	exchange(t, 0, l[2], seat{h, 2})
	l[2].has()
	for i := range 6 {
		l[0].says(0, "x")
		exchange(t, 0, l[0], seat{h, 0})
		equal(t, "Held", h.s.Held(), 2*min(i+1, 4))
	}
	for party := range 3 {
		equal(t, "Lost", h.s.Lost(party), map[int]int{2: 2}[party])
		for _, label := range labels {
			equal(t, "Failed", h.s.Failed(party, label), party == 1 && label == "a")
		}
	}
	want(t, h.hear(1, sounding(t, audio.Packet{Seq: 1}), 0), api.OK)
	h.are(1, assoc.Open, 10)
	exchange(t, 0, l[2], seat{h, 2})
	h.are(1, assoc.Open, 5)
	exchange(t, 0, l[0], seat{h, 0})
	h.are(1, assoc.Open, 4)
	exchange(t, 0, l[1], seat{h, 1})
	h.are(1, assoc.Open, 0)
	equal(t, "Failed", h.s.Failed(1, "a"), true)
	equal(t, "Lost", h.s.Lost(2), 2)
}
