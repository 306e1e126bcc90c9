package assoc_test

import (
	"encoding/binary"
	"reflect"
	"slices"
	"testing"

	"bollard/api"
	"bollard/assoc"
	"bollard/crc"
)

// P17.1: the states are numbered in the order in which they are told.
func TestStates(t *testing.T) {
	if got := []int{assoc.Closed, assoc.Waiting, assoc.Echoed, assoc.Open, assoc.Closing, assoc.ShutSent, assoc.ShutHeard, assoc.ShutAcked, assoc.Done}; !slices.Equal(got, states()) || got[8] != 8 {
		t.Errorf("the states are %v", got)
	}
}

// P17.1: an Assoc that is new is Closed, and has nothing to tell.
func TestNew(t *testing.T) {
	for _, c := range []assoc.Config{{}, config(), {Port: 65535, Peer: 65535, Key: make([]byte, 100), Streams: greatest, Mtu: greatest, Life: greatest}, {Key: []byte{}, Streams: least, Mtu: least, Life: least}} {
		s := begin(t, c)
		s.state(closed)
		s.tags(0, 0, 0)
		for _, now := range []int{0, 1, 3000, 1000000, latest, greatest} {
			s.tells(now)
			s.tick(now)
		}
		s.has()
		s.noStreams()
		s.state(closed)
		if !reflect.DeepEqual(s.a, assoc.New(c)) {
			t.Errorf("of %v something is kept", c)
		}
	}
}

// P17.1: Start: the state is Waiting, and the drawn number is this side's tag; twice it is ErrState.
func TestStart(t *testing.T) {
	for _, x := range []struct{ draw, want uint32 }{{0, 1}, {1, 1}, {2, 2}, {77, 77}, {half, half}, {top, top}} {
		s := begin(t, config())
		if err := s.start(0, x.draw); err != api.OK {
			t.Fatalf("Start is %v", err)
		}
		s.state(waiting)
		s.tags(x.want, 0, 0)
		if err := s.start(0, 5); err != api.ErrState {
			t.Errorf("a second Start is %v", err)
		}
		s.tags(x.want, 0, 0)
		s.tells(0, api.Chunk{Kind: 1, A: x.want, B: 65536, Out: 4, In: 4, Ppid: x.want})
		s.tells(0)
	}
}

// P17.1: Start is ErrState, unless Closed, and changes nothing then.
func TestStartInEachState(t *testing.T) {
	for _, state := range states()[1:] {
		kept(t, state, func(s *side) {
			if err := s.start(5, 99); err != api.ErrState {
				t.Errorf("in the state %d Start is %v", state, err)
			}
		})
	}
}

// kept asks that calls change nothing of a side in a state: it is like one of which they were not asked.
func kept(t *testing.T, state int, calls func(s *side)) {
	t.Helper()
	s, twin := usual(t, state), usual(t, state)
	calls(s)
	if !reflect.DeepEqual(s.a, twin.a) {
		t.Errorf("in the state %d something has changed", state)
	}
}

// P17.1: the Init that is told, octet by octet.
func TestInitOctets(t *testing.T) {
	a := assoc.New(assoc.Config{Port: 258, Peer: 772, Streams: 5})
	a.Start(0, 0x01020304)
	want := []byte{
		1, 2, 3, 4, 0, 0, 0, 0, 0, 0, 0, 0, // ports, the tag 0, and the checksum's place
		1, 0, 0, 20, 1, 2, 3, 4, 0, 1, 0, 0, 0, 5, 0, 5, 1, 2, 3, 4,
	}
	binary.LittleEndian.PutUint32(want[8:], crc.Sum(table, want))
	if l := a.Tell(0); len(l) != 1 || !slices.Equal(l[0], want) {
		t.Errorf("Tell is %v, want %v", l, want)
	}
}

// numbersOfStreams are such numbers, and how many streams there are then.
var numbersOfStreams = []struct{ number, want int }{
	{least, 64}, {-65, 64}, {-1, 64}, {0, 64}, {1, 1}, {2, 2}, {63, 63}, {64, 64}, {65, 64}, {1000, 64}, {65537, 64}, {1<<32 + 1, 64}, {greatest, 64},
}

// P17.1: Streams that are not 1 to 64 are 64.
func TestStreams(t *testing.T) {
	for _, x := range numbersOfStreams {
		c := config()
		c.Streams = x.number
		s := begin(t, c)
		s.start(0, mine)
		n := uint16(x.want)
		s.tells(0, api.Chunk{Kind: 1, A: mine, B: 65536, Out: n, In: n, Ppid: mine})
	}
}

// P17.1: the timer 1 runs from the Start on; before it is due nothing is told again.
func TestStartTimer(t *testing.T) {
	for _, x := range []struct{ now, due int }{{0, 3000}, {1, 3001}, {12345, 15345}, {-1, 3000}, {least, 3000}, {latest - 3000, latest}} {
		s := begin(t, config())
		s.start(x.now, mine)
		s.tell(x.now)
		s.tick(x.due - 1)
		s.tells(x.due - 1)
		s.tick(x.due)
		s.tells(x.due, api.Chunk{Kind: 1, A: mine, B: 65536, Out: 4, In: 4, Ppid: mine})
		s.tells(x.due)
	}
}

// P17.1: times above the greatest one are that one, so that what is due behind it is never due.
func TestStartLate(t *testing.T) {
	for _, now := range []int{latest - 2999, latest, latest + 1, greatest} {
		s := begin(t, config())
		s.start(now, mine)
		s.tell(now)
		for _, later := range []int{latest + 2999, latest + 3000, latest + 100000, greatest} {
			s.tick(later)
			s.tells(later)
		}
	}
}

// P17.1: the chapter's example, ahead of the cookie.
func TestExample(t *testing.T) {
	s := begin(t, config())
	s.start(0, mine)
	l := s.tell(0)
	if len(l) != 1 || len(l[0].Chunks) != 1 || l[0].Chunks[0].Kind != api.Init {
		t.Fatalf("Tell is %v", l)
	}
	other := begin(t, assoc.Config{Port: peer, Peer: port, Key: key(), Streams: 2, Mtu: 1200, Life: 10})
	answers, err := other.hears(packed(t, l[0]), 0, theirs)
	if err != api.OK || len(answers) != 1 || len(answers[0].Chunks) != 1 || answers[0].Chunks[0].Kind != api.InitAck {
		t.Errorf("Hear is %v, %v", answers, err)
	}
	other.state(closed)
}
