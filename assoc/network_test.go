package assoc_test

import (
	"encoding/binary"
	"math/rand"
	"reflect"
	"slices"
	"testing"

	"bollard/api"
	"bollard/assoc"
)

// network is two sides, and the packets that are under way between them.
type network struct {
	t     *testing.T
	draw  *rand.Rand
	lost  int // of 100 packets
	late  int // how much later a packet may come than it was told
	sides [2]*assoc.Assoc
	way   [2][]under // to each side
	said  [2][]api.Message
	told  [2][]api.Message
	// whose streams began anew, as each side told
	restarted, performed [2][]uint16
	now                  int
}

// under is a packet that is under way.
type under struct {
	at     int
	octets []byte
}

// aside is a new side of a network.
func aside(i int) *assoc.Assoc {
	c := assoc.Config{Port: port, Peer: peer, Key: key(), Streams: 4, Mtu: 300, Life: 1 << 30}
	if i == 1 {
		c.Port, c.Peer, c.Key, c.Streams = peer, port, []byte("fedcba9876543210"), 5
	}
	return assoc.New(c)
}

func apartBy(t *testing.T, draw *rand.Rand, lost, late int) *network {
	return &network{t: t, draw: draw, lost: lost, late: late, sides: [2]*assoc.Assoc{aside(0), aside(1)}}
}

// bring lets packets of a side be under way to the other one: lost, twice, late.
func (n *network) bring(from int, l [][]byte) {
	for _, b := range l {
		for n.draw.Intn(100) >= n.lost {
			n.way[1-from] = append(n.way[1-from], under{n.now + n.draw.Intn(n.late+1), slices.Clone(b)})
			if n.lost == 0 || n.draw.Intn(5) > 0 {
				break
			}
		}
		turn(b)
	}
}

// come hands a side what has come by now, in a drawn order, and sends its answers; how much that is.
func (n *network) come(i int) int {
	n.t.Helper()
	var l [][]byte
	n.way[i] = slices.DeleteFunc(n.way[i], func(u under) bool {
		if u.at <= n.now {
			l = append(l, u.octets)
		}
		return u.at <= n.now
	})
	if n.lost > 0 {
		n.draw.Shuffle(len(l), func(a, b int) { l[a], l[b] = l[b], l[a] })
	}
	for _, b := range l {
		n.turned(i, b)
		answers, err := n.sides[i].Hear(b, n.now, n.draw.Uint32())
		// What comes late, or twice, may not be any more; but without that all is taken.
		if err != api.OK && (n.lost == 0 || err != api.ErrTag && err != api.ErrState && err != api.ErrForm) {
			n.t.Fatalf("in the state %d Hear is %v", n.sides[i].State(), err)
		}
		n.bring(i, answers)
		n.take(i)
	}
	return len(l)
}

// turned now and then hands in a packet one octet of which was turned: nothing is answered.
func (n *network) turned(i int, b []byte) {
	n.t.Helper()
	if n.draw.Intn(10) > 0 {
		return
	}
	b = slices.Clone(b)
	b[n.draw.Intn(len(b))] ^= byte(1 + n.draw.Intn(255))
	if l, err := n.sides[i].Hear(b, n.now, n.draw.Uint32()); err != api.ErrSum || len(l) != 0 {
		n.t.Fatalf("of a turned octet Hear is %v, %v", l, err)
	}
}

// take takes what a side has.
func (n *network) take(i int) {
	n.restarted[i] = append(n.restarted[i], n.sides[i].Restarted()...)
	n.performed[i] = append(n.performed[i], n.sides[i].Performed()...)
	for _, m := range n.sides[i].Messages() {
		n.told[i] = append(n.told[i], copied(m))
		turn(m.Data)
	}
}

// step lets both sides do what they do at a time, and goes on to a later one: far, if nothing was done.
func (n *network) step() {
	n.t.Helper()
	count := 0
	for i, a := range n.sides {
		l := a.Tell(n.now)
		count += len(l)
		n.bring(i, l)
	}
	count += n.come(0) + n.come(1)
	for _, a := range n.sides {
		a.Tick(n.now)
	}
	n.now += 1 + n.draw.Intn(50)
	if count == 0 && n.lost > 0 {
		n.now += 500
	}
}

// until goes on until something is so.
func (n *network) until(what string, so func() bool) {
	n.t.Helper()
	for end := n.now + 2000000; !so(); n.step() {
		if n.now > end {
			n.t.Fatalf("at %d it is not so that %s; the states are %d and %d", n.now, what, n.sides[0].State(), n.sides[1].State())
		}
	}
}

// open goes on until both sides are open, and know the same tags.
func (n *network) open() {
	n.t.Helper()
	n.until("both are open", func() bool { return n.sides[0].State() == open && n.sides[1].State() == open })
	a, b := n.sides[0].Tags()
	c, d := n.sides[1].Tags()
	if a != d || b != c || a == 0 || b == 0 {
		n.t.Fatalf("the tags are %d, %d and %d, %d", a, b, c, d)
	}
}

// say lets a side send a message that is never given up.
func (n *network) say(i int) {
	n.t.Helper()
	m := api.Message{Stream: uint16(n.draw.Intn(4)), Unordered: n.draw.Intn(4) == 0, Ppid: n.draw.Uint32(), Data: make([]byte, 4+n.draw.Intn(700))}
	n.draw.Read(m.Data)
	binary.BigEndian.PutUint32(m.Data, uint32(len(n.said[i])))
	handed := copied(m)
	if err := n.sides[i].Send(handed, always, always, n.now); err != api.OK {
		n.t.Fatalf("Send is %v", err)
	}
	turn(handed.Data)
	n.said[i] = append(n.said[i], m)
}

// sayAll lets both sides say so many messages.
func (n *network) sayAll(count int) {
	n.t.Helper()
	for range count {
		n.say(0)
		n.say(1)
		for range n.draw.Intn(2) {
			n.step()
		}
	}
}

// allTold goes on until all that was said has come, and asks that it came as it was said.
func (n *network) allTold() {
	n.t.Helper()
	n.until("all is told", func() bool {
		return len(n.told[0]) >= len(n.said[1]) && len(n.told[1]) >= len(n.said[0])
	})
	n.check(0)
	n.check(1)
}

// check asks that what a side was told is what the other one said: all, each once, as it was, that of each stream in order.
func (n *network) check(i int) {
	n.t.Helper()
	all := n.said[1-i]
	if len(n.told[i]) != len(all) {
		n.t.Fatalf("there are told %d messages, want %d", len(n.told[i]), len(all))
	}
	seen := map[uint32]bool{}
	last := map[uint16]int64{}
	for _, m := range n.told[i] {
		place := binary.BigEndian.Uint32(m.Data)
		if seen[place] || int(place) >= len(all) || !reflect.DeepEqual(m, all[place]) {
			n.t.Fatalf("there is told %v, which was not said so", m)
		}
		seen[place] = true
		if m.Unordered {
			continue
		}
		if before, there := last[m.Stream]; there && before >= int64(place) {
			n.t.Fatalf("of the stream %d there is told the message %d behind %d", m.Stream, place, before)
		}
		last[m.Stream] = int64(place)
	}
}

// restart lets a side restart streams, and goes on until that is done on both.
func (n *network) restart(i int, streams ...uint16) {
	n.t.Helper()
	n.restarted, n.performed = [2][]uint16{}, [2][]uint16{}
	if err := n.sides[i].Restart(streams, n.now); err != api.OK {
		n.t.Fatalf("Restart is %v", err)
	}
	n.until("the streams are restarted", func() bool { return len(n.performed[i]) > 0 })
	for range 20 {
		n.step()
	}
	if !slices.Equal(n.performed[i], streams) || !slices.Equal(n.restarted[1-i], streams) || len(n.performed[1-i]) != 0 || len(n.restarted[i]) != 0 {
		n.t.Fatalf("Restarted is %v, Performed %v, want %v", n.restarted, n.performed, streams)
	}
}

// end lets sides close, and goes on until both are done.
func (n *network) end(sides ...int) {
	n.t.Helper()
	for _, i := range sides {
		if err := n.sides[i].Close(n.now); err != api.OK {
			n.t.Fatalf("Close is %v", err)
		}
	}
	n.until("both are done", func() bool { return n.sides[0].State() == done && n.sides[1].State() == done })
	n.check(0)
	n.check(1)
}

// begin lets sides start.
func (n *network) begin(sides ...int) {
	n.t.Helper()
	for _, i := range sides {
		if err := n.sides[i].Start(n.now, n.draw.Uint32()); err != api.OK {
			n.t.Fatalf("Start is %v", err)
		}
	}
}

// ways are how packets are lost and late. If much more is lost, a side may be done before the other one has told all: what its timer says is told eight times again, no more.
var ways = []struct{ lost, late int }{{0, 0}, {1, 10}, {5, 50}, {10, 900}, {15, 300}, {10, 3000}, {1, 9000}}

// P17.6: two sides whose packets come through open, tell all, restart streams, and end; packets may be lost, told twice and late, and octets turned.
func TestOpenTellEnd(t *testing.T) {
	for seed := range int64(60) {
		way := ways[seed%int64(len(ways))]
		n := apartBy(t, rand.New(rand.NewSource(170+seed)), way.lost, way.late)
		n.begin(int(seed % 2))
		n.open()
		n.sayAll(10)
		n.allTold()
		n.restart(0, 1, 3)
		n.restart(1, 0)
		n.sayAll(10)
		n.allTold()
		n.restart(1, 2, 0)
		n.sayAll(10)
		n.end(int(seed / 2 % 2))
	}
}

// P17.6: nothing being lost or late, it takes no timer.
func TestNothingLost(t *testing.T) {
	for seed := range int64(20) {
		n := apartBy(t, rand.New(rand.NewSource(300+seed)), 0, 0)
		n.begin(0)
		n.open()
		n.restart(0, 1)
		n.sayAll(5)
		n.end(1)
		if n.now >= 3000 {
			t.Errorf("it took %d", n.now)
		}
		if n.sides[0].Times() != 1 || n.sides[1].Times() != 1 {
			t.Errorf("Times are %d and %d", n.sides[0].Times(), n.sides[1].Times())
		}
	}
}

// P17.6: both begin at once, and both end at once.
func TestBothAtOnce(t *testing.T) {
	for seed := range int64(60) {
		way := ways[1+seed%int64(len(ways)-1)]
		n := apartBy(t, rand.New(rand.NewSource(400+seed)), way.lost, way.late)
		n.begin(0, 1)
		n.open()
		n.sayAll(10)
		n.allTold()
		n.restart(1, 2)
		n.sayAll(5)
		n.end(0, 1)
	}
}

// P17.6: a side that begins anew, while what the old one sent is still under way, is open with the same other one again.
func TestBeginsAnew(t *testing.T) {
	for seed := range int64(60) {
		way := ways[1+seed%int64(len(ways)-1)]
		n := apartBy(t, rand.New(rand.NewSource(500+seed)), way.lost, way.late)
		n.begin(0)
		n.open()
		n.sayAll(5)
		n.restartOf(0)
		n.sayAll(3)
		n.allTold()
		n.restart(0, 1)
		n.restart(1, 1)
		n.restartOf(1)
		n.sayAll(3)
		n.allTold()
		n.restart(0, 1)
		n.restart(1, 1)
		n.end(0)
	}
}

// restartOf lets a side be a new one, and goes on until both are open by it. What was said before counts no more.
func (n *network) restartOf(i int) {
	n.t.Helper()
	times := n.sides[1-i].Times()
	n.sides[i] = aside(i)
	n.begin(i)
	n.until("the other side is open anew", func() bool { return n.sides[1-i].Times() == times+1 })
	n.take(0)
	n.take(1)
	n.said, n.told = [2][]api.Message{}, [2][]api.Message{}
	n.open()
	n.take(0)
	n.take(1)
	if len(n.told[0])+len(n.told[1]) > 0 {
		n.t.Fatalf("there is told what nobody said: %v", n.told)
	}
}

// P17.6: if nothing comes through any more, each side that has begun is done in the end, and says nothing then.
func TestNothingComesThrough(t *testing.T) {
	for _, state := range states()[waiting:done] {
		s := usual(t, state)
		if state == open {
			s.send(text(0, 1))
		}
		now := 0
		for range 60 {
			now += 60000
			s.tick(now)
			s.tell(now)
		}
		s.state(done)
		s.tells(now)
	}
}

// P17.6: octets turned at any place change nothing, in each state.
func TestTurnedOctets(t *testing.T) {
	draw := rand.New(rand.NewSource(176))
	for name, row := range kinds(t) {
		for _, state := range states() {
			kept(t, state, func(s *side) {
				good := s.packed(mine, row.chunk)
				for place := range good {
					b := slices.Clone(good)
					b[place] ^= byte(1 + draw.Intn(255))
					if l, err := s.hears(b, 0, 5); err != api.ErrSum || len(l) != 0 {
						t.Errorf("%s in the state %d, the octet %d turned, is %v, %v", name, state, place, l, err)
					}
				}
			})
		}
	}
}

// P17.6: cookies one octet of which was turned, under a checksum that fits, change nothing.
func TestTurnedCookies(t *testing.T) {
	draw := rand.New(rand.NewSource(177))
	c := cookieState()
	c.Tag, c.Ties = 1111, [2]uint32{mine, theirs}
	good := brought(t, c).Data
	for _, state := range states() {
		kept(t, state, func(s *side) {
			for place := range good {
				b := slices.Clone(good)
				b[place] ^= byte(1 + draw.Intn(255))
				want := api.ErrCookie
				if place >= 56 {
					want = api.ErrForm
				}
				s.refuses(want, 1111, api.Chunk{Kind: 10, Data: b})
				s.refuses(want, binary.BigEndian.Uint32(b[16:]), api.Chunk{Kind: 10, Data: b})
			}
		})
	}
}
