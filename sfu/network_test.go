package sfu_test

import (
	"fmt"
	"math/rand"
	"slices"
	"strconv"
	"strings"
	"testing"

	"bollard/api"
	"bollard/assoc"
	"bollard/audio"
	"bollard/dcep"
	"bollard/sfu"
)

// conference is a server and parties, and the packets that are under way between them.
type conference struct {
	t      *testing.T
	draw   *rand.Rand
	config sfu.Config
	lost   int // of 100 packets
	late   int // how much later a packet may come than it was told
	h      *host
	guests []*guest
	logs   []*log
	way    []under
	now    int
}

// under is a packet that is under way.
type under struct {
	at, party int
	in        bool // to the server
	octets    []byte
}

// log is what is written down of a party at a place.
type log struct {
	opened  map[string]int // how many times it opened a channel of a label
	said    map[string]int // how much it said on that channel
	shut    map[string]int // how many times it closed one
	heard   []heard
	fails   map[string]int // how many times a subscription failed
	failed  map[string]bool
	stamp   uint32            // of its last sound
	sounds  map[uint32]uint32 // of each Source the stamp that was told last to it
	sounded map[uint32]int    // how many packets of each
	end     *end              // the association that heard that, and how many times it was made
	times   int
}

// heard is what a party heard, and by which of its channels of that label.
type heard struct {
	said    sfu.Said
	channel int
}

func confer(t *testing.T, draw *rand.Rand, c sfu.Config, lost, late int) *conference {
	t.Helper()
	n := &conference{t: t, draw: draw, config: c, lost: lost, late: late, h: newHost(t, c)}
	for range n.h.w.ends {
		n.guests, n.logs = append(n.guests, nil), append(n.logs, nil)
	}
	for party := range n.guests {
		n.comes(party)
	}
	return n
}

// comes lets a new party take a place.
func (n *conference) comes(party int) {
	n.t.Helper()
	n.guests[party] = newGuest(n.t, n.config)
	n.guests[party].draws = draws(n.draw.Uint32())
	if n.logs[party] == nil {
		n.logs[party] = &log{opened: map[string]int{}, said: map[string]int{}, shut: map[string]int{}, fails: map[string]int{}, failed: map[string]bool{}, sounds: map[uint32]uint32{}, sounded: map[uint32]int{}}
	}
	want(n.t, n.guests[party].start(n.now, n.draw.Uint32()|1), api.OK)
}

// bring lets packets be under way: lost, twice, late.
func (n *conference) bring(party int, in bool, l [][]byte) {
	for _, b := range l {
		for n.draw.Intn(100) >= n.lost {
			n.way = append(n.way, under{n.now + n.draw.Intn(n.late+1), party, in, b})
			if n.lost == 0 || n.draw.Intn(5) > 0 {
				break
			}
		}
	}
}

// arrive hands on what has come by now, in a drawn order where packets may be lost; how much that is.
func (n *conference) arrive() int {
	n.t.Helper()
	var l []under
	n.way = slices.DeleteFunc(n.way, func(u under) bool {
		if u.at <= n.now {
			l = append(l, u)
		}
		return u.at <= n.now
	})
	if n.lost > 0 {
		n.draw.Shuffle(len(l), func(a, b int) { l[a], l[b] = l[b], l[a] })
	}
	for _, u := range l {
		if u.in {
			n.h.hear(u.party, u.octets, n.now)
		} else {
			n.guests[u.party].take(u.octets, n.now)
		}
		n.note()
	}
	return len(l)
}

// note writes down what was heard, and which subscriptions failed.
func (n *conference) note() {
	n.t.Helper()
	for party, g := range n.guests {
		log := n.logs[party]
		for _, s := range g.heard() {
			log.heard = append(log.heard, heard{s, log.opened[s.Label]})
		}
		for _, label := range labels {
			failed := n.h.s.Failed(party, label)
			if failed && !log.failed[label] {
				log.fails[label]++
			}
			log.failed[label] = failed
		}
	}
}

// tells lets a place tell, and asks that the sound in it comes in order, as it was.
func (n *conference) tells(party int) [][]byte {
	n.t.Helper()
	l := n.h.tell(party, n.now)
	log := n.logs[party]
	// A listener that is new knows no speaker: what comes late may come to it once more.
	if e := n.h.w.ends[party]; e != log.end || e.times != log.times {
		log.end, log.times, log.sounds = e, e.times, map[uint32]uint32{}
	}
	for _, b := range l {
		if !audio.Is(b) {
			continue
		}
		p, err := audio.Decode(b)
		if err != api.OK || p.Source < 1 || int(p.Source) > len(n.guests) || int(p.Source) == party+1 {
			n.t.Fatalf("there sounds %v, %v to %d", p, err, party)
		}
		if p.Stamp <= log.sounds[p.Source] || p.Stamp > n.logs[p.Source-1].stamp || !samePackets(p, soundOf(p.Stamp, p.Seq, p.Source)) {
			n.t.Fatalf("behind the stamp %d there sounds %v", log.sounds[p.Source], p)
		}
		log.sounds[p.Source] = p.Stamp
		log.sounded[p.Source]++
	}
	return l
}

// soundOf is the sound of a stamp: all of it but the numbers by which it is handed on.
func soundOf(stamp uint32, seq uint16, source uint32) audio.Packet {
	return audio.Packet{Marker: stamp%3 == 0, Kind: uint8(stamp % 128), Seq: seq, Stamp: stamp, Source: source, Data: fmt.Append(nil, "sound ", stamp)}
}

// step lets all do what they do at a time, and goes on to a later one: far, if nothing was done.
func (n *conference) step() {
	n.t.Helper()
	count := 0
	for party, g := range n.guests {
		l := g.give(n.now)
		m := n.tells(party)
		count += len(l) + len(m)
		n.bring(party, true, l)
		n.bring(party, false, m)
	}
	count += n.arrive()
	n.h.tick(n.now)
	for _, g := range n.guests {
		g.tick(n.now)
	}
	n.note()
	n.now += 1 + n.draw.Intn(50)
	if count == 0 {
		n.now += 500
	}
}

// until goes on until something is so.
func (n *conference) until(what string, so func() bool) {
	n.t.Helper()
	for end := n.now + 3000000; !so(); n.step() {
		if n.now > end {
			n.t.Fatalf("at %d it is not so that %s", n.now, what)
		}
	}
}

// rest goes on until nothing is done for long.
func (n *conference) rest() {
	n.t.Helper()
	n.lost = 0
	for still := 0; still < 200; still++ {
		before := n.now
		n.step()
		if n.now-before < 500 {
			still = 0
		}
	}
}

// open goes on until all are open; one that has lost too much comes again.
func (n *conference) open() {
	n.t.Helper()
	n.until("all are open", func() bool {
		for party, g := range n.guests {
			if g.p.State() == assoc.Done {
				n.comes(party)
			}
			if g.p.State() != assoc.Open || n.h.s.State(party) != assoc.Open {
				return false
			}
		}
		return true
	})
}

// opens lets a party open a channel.
func (n *conference) opens(party int, o dcep.Opening) api.Errno {
	n.t.Helper()
	_, err := n.guests[party].open(o, n.now)
	if err == api.OK {
		n.logs[party].opened[o.Label]++
		n.logs[party].said[o.Label] = 0
	}
	return err
}

// says lets a party say the next thing on a label.
func (n *conference) says(party int, label string) api.Errno {
	n.t.Helper()
	log := n.logs[party]
	s := fmt.Sprintf("%d/%s/%d/%d/", party, label, log.opened[label], log.said[label])
	if n.draw.Intn(20) == 0 {
		s += strings.Repeat("long", 500)
	}
	err := n.guests[party].say(label, n.draw.Intn(2) == 0, []byte(s), n.now)
	if err == api.OK {
		log.said[label]++
	}
	return err
}

// shuts lets a party close a channel.
func (n *conference) shuts(party int, label string) api.Errno {
	n.t.Helper()
	err := n.guests[party].shut(label, n.now)
	if err == api.OK {
		n.logs[party].shut[label]++
	}
	return err
}

// sounds lets a party sound.
func (n *conference) sounds(party int) api.Errno {
	n.t.Helper()
	log := n.logs[party]
	p := soundOf(log.stamp+1, uint16(log.stamp*2)+65000, uint32(77+party))
	err := n.guests[party].sound(p)
	if err == api.OK {
		log.stamp++
	}
	return err
}

// run is one thing that was said: by whom, on which of its channels of a label, as which.
type run struct {
	party   int
	label   string
	channel int
	number  int
}

func (n *conference) read(s sfu.Said) run {
	n.t.Helper()
	f := strings.Split(string(s.Data), "/")
	if len(f) != 5 || f[1] != s.Label {
		n.t.Fatalf("there is heard %v", s)
	}
	var r run
	r.label = f[1]
	r.party, _ = strconv.Atoi(f[0])
	r.channel, _ = strconv.Atoi(f[2])
	r.number, _ = strconv.Atoi(f[3])
	return r
}

// check asks that what each party heard of each channel of another one are runs, in order, each thing once, none left out but where a subscription failed, or where the party closed another channel of that label, whose opening may come late and takes all up to its end; and that it had a channel of that label. kind is that of a party's channels of a label.
func (n *conference) check(kind func(party int, label string) uint8) {
	n.t.Helper()
	for party, log := range n.logs {
		last := map[run]run{}
		from := map[run]int{} // which of the party's own channels heard it
		gaps := map[string]int{}
		seen := map[run]bool{}
		for _, x := range log.heard {
			r := n.read(x.said)
			if r.party == party || x.channel == 0 || seen[r] {
				n.t.Fatalf("party %d hears %v by its channel %d", party, r, x.channel)
			}
			seen[r] = true
			if kind(party, r.label) >= 128 || kind(r.party, r.label) >= 128 {
				continue
			}
			id := run{r.party, r.label, r.channel, 0}
			was, there := last[id]
			if there && r.number <= was.number {
				n.t.Fatalf("party %d hears %v behind %v", party, r, was)
			}
			if there && r.number != was.number+1 && from[id] == x.channel && kind(party, r.label)+kind(r.party, r.label) == 0 {
				gaps[r.label]++
			}
			last[id], from[id] = r, x.channel
		}
		for label, number := range gaps {
			if number > (log.fails[label]+log.shut[label])*len(n.guests) {
				n.t.Fatalf("party %d misses something %d times on %q, which failed %d times", party, number, label, log.fails[label])
			}
		}
	}
}
