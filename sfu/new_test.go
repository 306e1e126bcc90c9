package sfu_test

import (
	"testing"

	"bollard/api"
	"bollard/assoc"
	"bollard/audio"
	"bollard/dcep"
	"bollard/sfu"
)

// bounds are numbers, and what is taken in place of them where there are 1 to most.
func bounds(most int) map[int]int {
	m := map[int]int{}
	for _, n := range []int{least, least + 1, -1 << 32, -64, -1, 0, most + 1, 255, 256, 257, 65536, 1<<32 + 1, greatest} {
		m[n] = most
	}
	for n := range most {
		m[n+1] = n + 1
	}
	return m
}

// Limits: a server has 1 to 16 places, of another number 16.
func TestPlaces(t *testing.T) {
	for n, places := range bounds(api.MaxParties) {
		c := config()
		c.Parties = n
		s := sfu.NewServer(c)
		for party := range 20 {
			state, err := assoc.Closed, api.ErrShort
			if party >= places {
				state, err = assoc.Done, api.ErrArg
			}
			if s.State(party) != state || s.Hear(party, nil, 0, 1) != err {
				t.Errorf("of %d parties the place %d is in the state %d", n, party, s.State(party))
			}
		}
	}
}

// Limits: the last one of all places hears all others, and is heard by them.
func TestLastPlace(t *testing.T) {
	c := config()
	c.Parties = greatest
	h := newHost(t, c)
	l := all(t, h)
	for party, x := range l {
		x.opens(0, dcep.Opening{Label: "a"})
		exchange(t, 0, x, seat{h, party})
		x.has()
	}
	for _, party := range []int{0, 15} {
		l[party].says(0, "x")
		exchange(t, 0, l[party], seat{h, party})
		want(t, h.hear(party, sounding(t, audio.Packet{Seq: 1}), 0), api.OK)
		for other, x := range l {
			if other != party {
				exchange(t, 0, x, seat{h, other})
				x.has(text(0, "x"))
				equal(t, "sounds", len(x.sounds), 1)
			}
			x.sounds = nil
		}
		h.are(party, assoc.Open, 0)
	}
}

// Limits: 1 to 64 items, and as many packets of sound, wait for each party, of another number 64.
func TestRooms(t *testing.T) {
	for n, room := range bounds(api.MaxQueue) {
		if n > 3 && n < 62 {
			continue
		}
		c := config()
		c.Room = n
		h := newHost(t, c)
		l := []*hand{comes(t, h, 0), comes(t, h, 1)}
		for party, x := range l {
			x.opens(0, dcep.Opening{Label: "a"})
			exchange(t, 0, x, seat{h, party})
		}
		for i := range 66 {
			l[0].says(0, "x")
			exchange(t, 0, l[0], seat{h, 0})
			equal(t, "Failed", h.s.Failed(1, "a"), i >= room)
			h.are(1, assoc.Open, min(i+1, room))
		}
		for i := range 66 {
			want(t, h.hear(0, sounding(t, audio.Packet{Seq: uint16(i)}), 0), api.OK)
			h.are(1, assoc.Open, room+min(i+1, room))
		}
	}
}

// Limits: a side has 1 to 64 streams, of another number 64: as many are told of, and channels may be on each that is the party's.
func TestStreams(t *testing.T) {
	for n, streams := range bounds(api.MaxStreams) {
		c := config()
		c.Streams = n
		g := newGuest(t, c)
		want(t, g.start(0, 9), api.OK)
		init := chunks(t, g.give(0))[0]
		if int(init.Out) != streams || int(init.In) != streams {
			t.Fatalf("of %d streams there is told %v", n, init)
		}
		g = newGuest(t, c)
		h := newHost(t, c)
		want(t, g.start(0, 9), api.OK)
		exchange(t, 0, g, seat{h, 0})
		for stream := 0; stream < 66; stream += 2 {
			got, err := g.open(dcep.Opening{Label: string(rune('a' + stream))}, 0)
			if stream >= streams {
				want(t, err, api.ErrFull)
				break
			}
			want(t, err, api.OK)
			equal(t, "Open", got, uint16(stream))
			exchange(t, 0, g, seat{h, 0})
			equal(t, "Ready", g.p.Ready(string(rune('a'+stream))), true)
		}
	}
}

// Mtu and Life are the associations'.
func TestMtuAndLife(t *testing.T) {
	c := config()
	c.Mtu, c.Life = 100, 5
	h := newHost(t, c)
	_, echo := cookieOf(t, h, 0, 10)
	want(t, h.hear(0, echo, 16), api.ErrStale)
	want(t, h.hear(0, echo, 15), api.OK)

	g := newGuest(t, c)
	x := receives(t, g)
	opened(t, g, x, dcep.Opening{Label: "a"})
	want(t, g.say("a", false, make([]byte, 200), 0), api.OK)
	l := of(chunks(t, g.give(0)), api.Data)
	equal(t, "the first piece", len(l[0].Data), 72)

	y := comes(t, h, 1)
	y.opens(0, dcep.Opening{Label: "a"})
	exchange(t, 15, y, seat{h, 1})
	z := comes(t, h, 2)
	z.opens(0, dcep.Opening{Label: "a"})
	z.send(0, 53, make([]byte, 200))
	exchange(t, 15, z, seat{h, 2})
	l = of(chunks(t, h.tell(1, 15)), api.Data)
	equal(t, "the first piece", len(l[0].Data), 72)
}

// The first state of all: nobody is open, and nothing waits.
func TestNew(t *testing.T) {
	h := newHost(t, config())
	for party := range 3 {
		h.are(party, assoc.Closed, 0)
	}
	g := newGuest(t, config())
	if g.p.State() != assoc.Closed || len(g.give(0)) != 0 || len(g.heard()) != 0 || len(g.sounds()) != 0 {
		t.Errorf("a new Party has something")
	}
	h = newHost(t, sfu.Config{})
	want(t, h.hear(15, invitation(t, 9), 0), api.ErrArg) // there is no key
	g = newGuest(t, sfu.Config{})
	want(t, g.start(0, 0), api.OK)
}
