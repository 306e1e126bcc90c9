package xfer_test

import (
	"encoding/binary"
	"math/rand"
	"reflect"
	"slices"
	"testing"

	"bollard/api"
	"bollard/xfer"
)

// network is two Ends, and what is under way between them.
type network struct {
	t    *testing.T
	draw *rand.Rand
	lost int // of 100 chunks
	late int // how much later a chunk may come than it was told
	ends [2]*xfer.End
	way  [2][]under // to each End
	said [2][]said  // by each End
	told [2][]api.Message
	now  int
}

// under is a chunk that is under way.
type under struct {
	at    int
	chunk api.Chunk
}

// said is a message, and whether it is never given up.
type said struct {
	message api.Message
	kept    bool
}

// connected are two Ends, each First the other one's PeerFirst.
func connected(t *testing.T, draw *rand.Rand, first, other uint32, mtu int) *network {
	c := xfer.Config{First: first, PeerFirst: other, Room: 65536, Out: 4, In: 4, Mtu: mtu}
	back := c
	back.First, back.PeerFirst = other, first
	return &network{t: t, draw: draw, ends: [2]*xfer.End{xfer.New(c), xfer.New(back)}}
}

// message is one that has its place among what an End says in its first octets.
func (n *network) message(i, most int) api.Message {
	m := api.Message{Stream: uint16(n.draw.Intn(4)), Unordered: n.draw.Intn(4) == 0, Ppid: n.draw.Uint32(), Data: make([]byte, 4+n.draw.Intn(most-3))}
	n.draw.Read(m.Data)
	binary.BigEndian.PutUint32(m.Data, uint32(len(n.said[i])))
	return m
}

// say lets an End send a message; of 100 messages some may be given up.
func (n *network) say(i, most, given int) {
	n.t.Helper()
	s := said{n.message(i, most), true}
	life, tries := always, always
	if n.draw.Intn(100) < given {
		s.kept = false
		life, tries = n.draw.Intn(n.late+1000), always
		if n.draw.Intn(2) == 0 {
			life, tries = always, n.draw.Intn(3)
		}
	}
	handed := copiedMessage(s.message)
	if got := n.ends[i].Send(handed, life, tries, n.now); got != api.OK {
		n.t.Fatalf("Send is %v", got)
	}
	turn(handed.Data)
	n.said[i] = append(n.said[i], s)
}

// tell brings what an End tells under way to the other one; how much that is.
func (n *network) tell(i int) int {
	l := n.ends[i].Tell(n.now)
	for _, c := range l {
		for n.draw.Intn(100) >= n.lost {
			n.way[1-i] = append(n.way[1-i], under{n.now + n.draw.Intn(n.late+1), copied(c)})
			if n.draw.Intn(5) > 0 {
				break
			}
		}
	}
	turnAll(l)
	return len(l)
}

// bring hands an End what has come by now, in a drawn order; how much that is.
func (n *network) bring(i int) int {
	n.t.Helper()
	var come []api.Chunk
	n.way[i] = slices.DeleteFunc(n.way[i], func(u under) bool {
		if u.at <= n.now {
			come = append(come, u.chunk)
		}
		return u.at <= n.now
	})
	n.draw.Shuffle(len(come), func(a, b int) { come[a], come[b] = come[b], come[a] })
	for _, c := range come {
		got := n.ends[i].Hear(c, n.now)
		// An answer that is late may be below the floor.
		if got != api.OK && (c.Kind != api.Sack || got != api.ErrForm) {
			n.t.Fatalf("Hear(%v) is %v", c, got)
		}
	}
	turnAll(come)
	for _, m := range n.ends[i].Messages() {
		n.told[i] = append(n.told[i], copiedMessage(m))
		turn(m.Data)
	}
	return len(come)
}

// step lets both Ends do what they do at a time, and goes on to a later one: if nothing was done, to the next at which something is.
func (n *network) step() {
	n.t.Helper()
	count := n.tell(0) + n.tell(1)
	count += n.bring(0) + n.bring(1)
	for _, x := range n.ends {
		if x.Tick(n.now) {
			count++
		}
	}
	n.now += 1 + n.draw.Intn(50)
	if next := n.next(); count == 0 && next < greatest {
		n.now = max(n.now, next)
	}
}

// next is the time at which the next chunk comes, or the next timer is due.
func (n *network) next() int {
	next := greatest
	for i, x := range n.ends {
		if at, runs := x.Due(); runs {
			next = min(next, at)
		}
		for _, u := range n.way[i] {
			next = min(next, u.at)
		}
	}
	return next
}

// done tells that both Ends are idle, and nothing is under way.
func (n *network) done() bool {
	return n.ends[0].Idle() && n.ends[1].Idle() && len(n.way[0]) == 0 && len(n.way[1]) == 0
}

// talk lets both Ends say so many messages, and goes on until all is done.
func (n *network) talk(count, most, given int) {
	n.t.Helper()
	for left := [2]int{count, count}; left[0]+left[1] > 0; n.step() {
		for i := range left {
			for range min(left[i], n.draw.Intn(4)) {
				n.say(i, most, given)
				left[i]--
			}
		}
	}
	for steps := 0; !n.done(); steps++ {
		if steps > 100000 {
			n.t.Fatalf("at %d there is still something to be done", n.now)
		}
		n.step()
	}
	for i, x := range n.ends {
		if _, runs := x.Due(); runs || x.Failures() != 0 || x.Cum() != n.ends[1-i].Next()-1 {
			n.t.Errorf("Due is %v, Failures %d, Cum %d, the other one's Next %d", runs, x.Failures(), x.Cum(), n.ends[1-i].Next())
		}
	}
	n.check(0)
	n.check(1)
}

// check asks that what an End was told is what the other one said: as it was, each once at most, in order that of each stream that has one, and all that is never given up.
func (n *network) check(i int) {
	n.t.Helper()
	all := n.said[1-i]
	told := map[uint32]int{}
	last := map[uint16]int64{}
	for _, m := range n.told[i] {
		place := binary.BigEndian.Uint32(m.Data)
		told[place]++
		if told[place] > 1 || int(place) >= len(all) || !reflect.DeepEqual(m, all[place].message) {
			n.t.Fatalf("there is told %v, which was not said so", m)
		}
		if m.Unordered {
			continue
		}
		if before, there := last[m.Stream]; there && before >= int64(place) {
			n.t.Fatalf("of the stream %d there is told the message %d behind %d", m.Stream, place, before)
		}
		last[m.Stream] = int64(place)
	}
	for place, s := range all {
		if s.kept && told[uint32(place)] == 0 {
			n.t.Fatalf("the message %d is not told", place)
		}
	}
}

// P16.6: nothing is lost: all messages come, in order, each once.
func TestNothingLost(t *testing.T) {
	draw := rand.New(rand.NewSource(161))
	for _, first := range firsts {
		for _, mtu := range []int{1, 29, 40, 128, 1200} {
			n := connected(t, draw, first, firsts[draw.Intn(len(firsts))], mtu)
			n.talk(15, 50, 0)
		}
	}
}

// P16.6: chunks are lost, told twice and late: all messages come, those of each stream in order, each once.
func TestLostTwiceAndLate(t *testing.T) {
	draw := rand.New(rand.NewSource(162))
	for run := range 180 {
		n := connected(t, draw, firsts[draw.Intn(len(firsts))], firsts[draw.Intn(len(firsts))], 128)
		n.lost, n.late = []int{0, 5, 20, 50, 80}[run%5], []int{0, 50, 900, 20000}[run%4]
		n.talk(30, 600, 0)
	}
}

// P16.6: likewise of small pieces, many of a message.
func TestLostOfSmallPieces(t *testing.T) {
	draw := rand.New(rand.NewSource(163))
	for run := range 60 {
		n := connected(t, draw, firsts[draw.Intn(len(firsts))], firsts[draw.Intn(len(firsts))], []int{1, 28, 30, 33}[run%4])
		n.lost, n.late = []int{5, 20, 50}[run%3], []int{0, 50, 900, 5000}[draw.Intn(4)]
		n.talk(20, 40, 0)
	}
}

// P16.6: messages that are given up are told once at most; the others come all the same.
func TestGivenUp(t *testing.T) {
	draw := rand.New(rand.NewSource(164))
	for run := range 180 {
		n := connected(t, draw, firsts[draw.Intn(len(firsts))], firsts[draw.Intn(len(firsts))], 128)
		n.lost, n.late = []int{0, 5, 20, 50, 80}[run%5], []int{0, 50, 900, 20000}[run%4]
		n.talk(30, 600, []int{10, 50, 100}[run%3])
		if run%3 == 2 && run%5 == 4 && len(n.told[0]) == len(n.said[1]) && len(n.told[1]) == len(n.said[0]) {
			t.Errorf("nothing was given up")
		}
	}
}

// advance lets an End send messages of one octet on a stream until its next number is one, all of which come at once.
func (n *network) advance(i int, stream uint16, number int) {
	n.t.Helper()
	x, y := n.ends[i], n.ends[1-i]
	for sent := 0; sent < number; {
		for range min(350, number-sent) {
			if got := x.Send(text(stream, 1), always, always, n.now); got != api.OK {
				n.t.Fatal(got)
			}
			sent++
		}
		for _, c := range x.Tell(n.now) {
			y.Hear(c, n.now)
		}
		y.Messages()
		for _, c := range y.Tell(n.now) {
			x.Hear(c, n.now)
		}
	}
	if !x.Idle() || !y.Idle() {
		n.t.Fatal("not all came")
	}
}

// P16.6: likewise while the numbers of messages go round, and those of chunks.
func TestNumbersGoRound(t *testing.T) {
	draw := rand.New(rand.NewSource(165))
	for run := range 4 {
		n := connected(t, draw, top-2*65500-20, top-65500-20, 128)
		n.advance(0, 0, 65500)
		n.advance(0, 3, 65530)
		n.advance(1, 2, 65520)
		n.lost, n.late = 20*run, []int{0, 300, 3000}[run%3]
		for range 3 {
			n.talk(200, 100, []int{0, 30}[run%2])
		}
		if n.ends[0].Next() > half || n.ends[1].Next() > half {
			t.Errorf("Next is %d, %d", n.ends[0].Next(), n.ends[1].Next())
		}
	}
}

// P16.6: the chapter's example.
func TestExample(t *testing.T) {
	x := xfer.New(xfer.Config{First: 3, PeerFirst: 9, Room: 65536, Out: 1, In: 1, Mtu: 1200})
	y := xfer.New(xfer.Config{First: 9, PeerFirst: 3, Room: 65536, Out: 1, In: 1, Mtu: 1200})
	if got := x.Send(text(0, 5), always, always, 0); got != api.OK {
		t.Errorf("Send is %v", got)
	}
	for _, c := range x.Tell(0) {
		if got := y.Hear(c, 10); got != api.OK {
			t.Errorf("Hear is %v", got)
		}
	}
	if l := y.Messages(); !sameMessages(l, []api.Message{text(0, 5)}) {
		t.Errorf("Messages is %v", l)
	}
	l := y.Tell(10)
	if !sameChunks(l, []api.Chunk{sack(3, 65536)}) {
		t.Errorf("Tell is %v", l)
	}
	if got := x.Hear(l[0], 20); got != api.OK || !x.Idle() || !y.Idle() {
		t.Errorf("Hear is %v", got)
	}
}
