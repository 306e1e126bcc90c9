package sfu_test

import (
	"math/rand"
	"testing"

	"bollard/api"
	"bollard/assoc"
	"bollard/dcep"
	"bollard/sfu"
)

// The chapter's example, by the calls alone.
func TestExample(t *testing.T) {
	c := sfu.Config{Parties: 2, Room: 64, Streams: 16, Mtu: 1200, Life: 60000, Key: key()}
	s := sfu.NewServer(c)
	l := []*sfu.Party{sfu.NewParty(c), sfu.NewParty(c)}
	turn := func() {
		for range 4 {
			for k, p := range l {
				for _, b := range p.Tell(0) {
					want(t, s.Hear(k, b, 0, uint32(50+k)), api.OK)
				}
				for _, b := range s.Tell(k, 0) {
					want(t, p.Hear(b, 0, 1), api.OK)
				}
			}
		}
	}
	for k, p := range l {
		want(t, p.Start(0, uint32(k+1)), api.OK)
	}
	turn()
	for _, p := range l {
		stream, err := p.Open(dcep.Opening{Label: "chat"}, 0)
		equal(t, "Open", stream, 0)
		want(t, err, api.OK)
	}
	turn()
	for _, p := range l {
		equal(t, "Ready", p.Ready("chat"), true)
	}
	want(t, l[0].Say("chat", true, []byte("hi"), 0), api.OK)
	turn()
	equal(t, "Heard", l[1].Heard(), []sfu.Said{{Label: "chat", Text: true, Data: []byte("hi")}})
	equal(t, "Heard", len(l[1].Heard())+len(l[0].Heard()), 0)
	equal(t, "Held", s.Held(), 0)
}

// usualKind is that of channels all of whose messages come, in order.
func usualKind(int, string) uint8 { return 0 }

// P21.6: whatever is lost, told twice or late: all that is said on a channel of the Kind 0 behind its opening is heard by all others that have one, in order, each once, to the last one.
func TestAllIsHeard(t *testing.T) {
	for seed := range int64(12) {
		draw := rand.New(rand.NewSource(seed))
		c := config()
		c.Room = 64
		n := confer(t, draw, c, int(seed%4)*10, int(seed%5)*100)
		n.open()
		for party := range n.guests {
			want(t, n.opens(party, dcep.Opening{Label: "a"}), api.OK)
			if party < 2 {
				want(t, n.opens(party, dcep.Opening{Label: "b"}), api.OK)
			}
		}
		n.until("all are ready", func() bool {
			return n.guests[0].p.Ready("a") && n.guests[1].p.Ready("a") && n.guests[2].p.Ready("a") && n.guests[0].p.Ready("b") && n.guests[1].p.Ready("b")
		})
		for range 60 {
			party := draw.Intn(3)
			want(t, n.says(party, "a"), api.OK)
			if party < 2 && draw.Intn(2) == 0 {
				want(t, n.says(party, "b"), api.OK)
			}
			if draw.Intn(2) == 0 {
				n.step()
			}
		}
		count := func(party int) int {
			sum := 0
			for other := range 3 {
				if other != party {
					sum += n.logs[other].said["a"]
					if party < 2 {
						sum += n.logs[other].said["b"]
					}
				}
			}
			return sum
		}
		n.until("all is heard", func() bool {
			return len(n.logs[0].heard) >= count(0) && len(n.logs[1].heard) >= count(1) && len(n.logs[2].heard) >= count(2)
		})
		n.rest()
		for party, log := range n.logs {
			equal(t, "what was heard", len(log.heard), count(party))
		}
		equal(t, "Held", n.h.s.Held(), 0)
		n.check(usualKind)
	}
}

// P21.6: where there is little room a subscription fails: up to there nothing is left out.
func TestHeardUpToFailure(t *testing.T) {
	failures := 0
	for seed := range int64(20) {
		draw := rand.New(rand.NewSource(100 + seed))
		c := config()
		c.Room = 1 + int(seed%5)
		n := confer(t, draw, c, int(seed%3)*10, 100)
		n.open()
		for party := range n.guests {
			want(t, n.opens(party, dcep.Opening{Label: "a"}), api.OK)
		}
		n.until("all are ready", func() bool {
			return n.guests[0].p.Ready("a") && n.guests[1].p.Ready("a") && n.guests[2].p.Ready("a")
		})
		for range 60 {
			n.says(draw.Intn(3), "a")
			if draw.Intn(3) == 0 {
				n.step()
			}
		}
		n.rest()
		for party, log := range n.logs {
			last := map[int]int{}
			for _, x := range log.heard {
				r := n.read(x.said)
				if r.number != last[r.party] {
					t.Fatalf("party %d hears %v, want the number %d", party, r, last[r.party])
				}
				last[r.party]++
			}
			if n.h.s.Failed(party, "a") {
				failures++
				continue
			}
			for other := range 3 {
				if other != party {
					equal(t, "what was heard", last[other], n.logs[other].said["a"])
				}
			}
		}
		equal(t, "Held", n.h.s.Held(), 0)
	}
	if failures < 10 {
		t.Errorf("there are %d failures", failures)
	}
}

// drawnKind is that of a party's channels of a label.
func drawnKind(party int, label string) uint8 {
	if label == "a" || label == "" {
		return 0
	}
	return kinds[(party+len(label))%len(kinds)]
}

// doAny lets a party do something.
func (n *conference) doAny(party int) {
	n.t.Helper()
	label := labels[(n.draw.Intn(10)+2)/3%4] // seldom none
	g := n.guests[party]
	switch k := n.draw.Intn(40); {
	case k < 18:
		n.says(party, label)
	case k < 27:
		n.opens(party, dcep.Opening{Kind: drawnKind(party, label), Limit: uint32(n.draw.Intn(3)), Label: label})
	case k < 29:
		n.shuts(party, label)
	case k < 38:
		n.sounds(party)
	case k == 38 && n.draw.Intn(6) == 0:
		g.close(n.now)
	case g.p.State() == assoc.Done || n.draw.Intn(12) == 0:
		n.comes(party)
	}
}

// P21.6: scripts of all that parties can do, of all kinds of channels, with datagrams lost, doubled and out of order: what is heard are runs, and nobody hears what it has no channel of; sound comes in order, as it was.
func TestScriptsOfConferences(t *testing.T) {
	items, sounds, fails := 0, 0, 0
	for seed := range int64(60) {
		draw := rand.New(rand.NewSource(1000 + seed))
		c := config()
		c.Parties = 2 + int(seed%3)
		c.Room = []int{1, 3, 8, 64}[seed%4]
		c.Streams = []int{4, 8, 16}[seed%3]
		n := confer(t, draw, c, []int{0, 5, 20}[seed%3], []int{0, 60, 400}[seed%3])
		for range 500 {
			n.doAny(draw.Intn(c.Parties))
			if draw.Intn(3) == 0 {
				n.step()
			}
		}
		n.rest()
		n.check(drawnKind)
		for _, log := range n.logs {
			items += len(log.heard)
			for _, n := range log.sounded {
				sounds += n
			}
			for _, n := range log.fails {
				fails += n
			}
		}
	}
	if items < 1500 || sounds < 4000 || fails < 40 {
		t.Errorf("there are %d items, %d packets of sound, %d failures", items, sounds, fails)
	}
}
