package xfer_test

import (
	"testing"

	"bollard/api"
	"bollard/chunk"
	"bollard/xfer"
)

// P16.4: nothing is told of a nil End, and of one that has nothing to tell.
func TestTellNothing(t *testing.T) {
	var x *xfer.End
	p := usual(t)
	for _, now := range []int{least, -1, 0, 1, latest, greatest} {
		if l := x.Tell(now); len(l) != 0 {
			t.Errorf("Tell(%d) of nil is %v", now, l)
		}
		p.tells(now)
		p.stands()
	}
}

// P16.4: a Sack alone: it is owed no more, and the timer stands.
func TestTellSack(t *testing.T) {
	p := usual(t)
	p.hear(0, flight(7, 0, text(1, 3)))
	p.tells(5, sack(7, 65533))
	p.stands()
	p.idle(true)
	p.tells(5)
	p.hear(0, flight(9, 2, text(1, 4)), flight(10, 3, text(1, 5)), flight(12, 4, text(1, 6)), flight(9, 2, text(1, 4)), flight(7, 0, text(1, 3)))
	p.tells(5, twice(sack(7, 65536-18, block(2, 3), block(5, 5)), 9, 7))
	p.tells(5)
	p.hear(0, flight(12, 4, text(1, 6)))
	p.tells(5, twice(sack(7, 65536-18, block(2, 3), block(5, 5)), 12))
	p.messages()
	p.tells(5)
	p.hear(0, forward(7))
	p.tells(5, sack(7, 65536-15, block(2, 3), block(5, 5)))
	p.stands()
}

// P16.4: the room is 65536 less what join holds, be it in pieces, waiting, or ready.
func TestTellRoom(t *testing.T) {
	p := usual(t)
	p.hear(0, flight(7, 0, text(1, 1000)))
	p.tells(0, sack(7, 64536))
	p.hear(0, flight(8, 2, text(1, 20000)))
	p.tells(0, sack(8, 44536))
	p.hear(0, piece(9, 0, 0, begin, make([]byte, 44536)...))
	p.tells(0, sack(9, 0))
	p.has(text(1, 1000))
	p.hear(0, forward(5))
	p.tells(0, sack(9, 1000))
	p.hear(0, flight(10, 1, text(1, 1)))
	p.has(text(1, 1), text(1, 20000))
	p.hear(0, forward(5))
	p.tells(0, sack(10, 21000))
	p.hear(0, forward(11))
	p.tells(0, sack(11, 65536))
}

// P16.4: at most 64 Blocks, and 64 Dups.
func TestTellManyBlocksAndDups(t *testing.T) {
	p := usual(t)
	want := sack(6, 65536-70)
	for i := range uint32(70) {
		n := 8 + 2*i
		p.hear(0, flight(n, uint16(i+1), text(1, 1)), flight(n, 0, text(1, 1)))
		if i < 64 {
			want.Blocks = append(want.Blocks, block(uint16(n-6), uint16(n-6)))
			want.Dups = append(want.Dups, n)
		}
	}
	p.tells(0, want)
	want.Dups = nil
	p.hear(0, forward(6))
	p.tells(0, want)
}

// P16.4: a Forward once, and not again, until it says more.
func TestTellForward(t *testing.T) {
	p := usual(t)
	p.sendFor(text(1, 1), 5, always, 0)
	p.sendFor(text(0, 1), 7, always, 0)
	p.sendFor(text(1, 1), 9, always, 0)
	p.tells(5, flight(100, 0, text(1, 1)), flight(101, 0, text(0, 1)), flight(102, 1, text(1, 1)))
	p.tells(6, forward(100, hop(1, 0)))
	p.tells(6)
	p.tells(7)
	p.tells(8, forward(101, hop(1, 0), hop(0, 0)))
	p.tells(9)
	p.tells(10, forward(102, hop(1, 1), hop(0, 0)))
	p.tells(11)
	p.tells(2999)
	p.due(3005)
	p.hear(2999, sack(101, 65536))
	p.due(2999 + 3000)
	p.tells(2999)
	p.tick(5999, true)
	p.tells(5999, forward(102, hop(1, 1)))
	p.hear(6000, sack(102, 65536))
	p.tells(6000)
	p.idle(true)
}

// P16.4: a Forward up to the number 0, and up to the last one, is told as any other one.
func TestTellForwardUpTo0(t *testing.T) {
	for _, first := range []uint32{0, 1, half, top} {
		c := config()
		c.First = first
		p := start(t, c)
		p.sendFor(text(1, 1), 5, always, 0)
		p.tells(6, forward(first, hop(1, 0)))
		p.tells(6)
		p.tick(3006, true)
		p.tells(3006, forward(first, hop(1, 0)))
		p.tells(3006)
	}
}

// P16.4: a Forward is told when the floor has come to what was given up, not earlier.
func TestTellForwardBehindOthers(t *testing.T) {
	p := usual(t)
	p.send(text(1, 1))
	p.sendFor(freely(1, 2), 5, always, 0)
	p.sendFor(text(1, 3), 5, always, 0)
	p.send(text(0, 4))
	p.tell(0)
	p.tells(6)
	p.hear(6, sack(99, 65536, block(4, 4)))
	p.tells(6)
	p.hear(6, sack(100, 65536, block(3, 3)))
	p.tells(6, forward(102, hop(1, 1)))
	p.hear(6, sack(103, 65536))
	p.idle(true)
}

// P16.4: a lesser number than it told last is another one, and so is the one of before then: what came, and did not.
func TestTellForwardOfLess(t *testing.T) {
	p := usual(t)
	p.sendFor(text(1, 1), 5, always, 0)
	p.send(text(0, 2))
	p.sendFor(text(1, 3), 5, always, 0)
	p.tell(0)
	p.hear(0, sack(99, 65536, block(2, 2)))
	p.tells(6, forward(102, hop(1, 1)))
	p.hear(6, sack(99, 65536))
	p.tells(6, forward(100, hop(1, 0)))
	p.hear(6, sack(99, 65536, block(2, 2)))
	p.tells(6, forward(102, hop(1, 1)))
	p.tells(6)
}

// P16.4: what has no order is skipped without a stream.
func TestTellForwardWithoutSkips(t *testing.T) {
	p := usual(t)
	p.sendFor(freely(1, 1), 5, always, 0)
	p.tells(6, forward(100))
	p.tells(6)
	p.due(3006)
}

// P16.4: as many as there are streams are skipped, in the order in which they are met.
func TestTellForwardOfAllStreams(t *testing.T) {
	c := config()
	c.Out, c.First = 64, top-19
	p := start(t, c)
	want := forward(171)
	for i := range uint16(192) {
		p.sendFor(text((5*i+3)%64, 1), 5, always, 0)
		if i < 64 {
			want.Skips = append(want.Skips, hop((5*i+3)%64, 2))
		}
	}
	p.tells(6, want)
	p.tells(6)
}

// P16.4: a message of several pieces is skipped as a whole.
func TestTellForwardOfPieces(t *testing.T) {
	p := usual(t)
	p.sendFor(text(1, 1000), 5, always, 0)
	p.flies(0, 100, 101, 102)
	p.hear(0, sack(100, 65536))
	p.flies(0, 103)
	p.tells(6, forward(109, hop(1, 0)))
	p.hear(6, sack(109, 65536))
	p.idle(true)
}

// P16.4: what is given up by its life is not told any more, ahead of all else: nor does it fly.
func TestTellExpiresFirst(t *testing.T) {
	p := usual(t)
	for range 3 {
		p.sendFor(text(1, 100), 5, always, 0)
	}
	p.send(texts(hundreds(4)...)...)
	p.flies(5, 100, 101, 102)
	l := p.tell(6)
	if len(l) != 4 || l[0].Kind != api.Forward || l[0].A != 102 || l[1].A != 103 || l[3].A != 105 {
		t.Errorf("there are told %v", l)
	}
}

// P16.4: what is given up by its tries.
func TestTellExpiresByTries(t *testing.T) {
	p := usual(t)
	p.sendFor(text(1, 100), always, 0, 0)
	p.sendFor(text(1, 100), always, 1, 0)
	p.send(text(1, 100))
	p.flies(0, 100, 101, 102)
	p.tick(3000, true)
	p.tells(3000, forward(100, hop(1, 0)), flight(101, 1, text(1, 100)))
	p.tick(9000, true)
	p.tells(9000, forward(101, hop(1, 1)), flight(102, 2, text(1, 100)))
	p.tick(21000, true)
	p.tells(21000, forward(101, hop(1, 1)), flight(102, 2, text(1, 100)))
}

// P16.4: times are bounded: what is worth sending until 0 is told at all times below.
func TestTellTimes(t *testing.T) {
	for _, now := range []int{least, -1, 0} {
		p := usual(t)
		p.sendFor(text(1, 1), 0, always, 0)
		p.tells(now, flight(100, 0, text(1, 1)))
		p.due(3000)
	}
	for _, now := range []int{latest, latest + 1, greatest} {
		p := usual(t)
		p.send(text(1, 1))
		p.tells(now, flight(100, 0, text(1, 1)))
		p.due(latest + 3000)
		p.hear(now, sack(99, 65536))
		p.tick(now, false)
	}
}

// P16.4: Data as far as the window lets it.
func TestTellData(t *testing.T) {
	p := usual(t)
	p.send(texts(100, 100, 100, 84, 1)...)
	p.flies(0, 100, 101, 102, 103)
	p.flies(0)
	p = usual(t)
	p.send(texts(100, 100, 100, 85, 1)...)
	p.flies(0, 100, 101, 102)
	p.flies(0)
	p = usual(t)
	p.send(texts(100, 100, 50)...)
	p.flies(0, 100, 101, 102)
	p.send(texts(100, 100, 34)...)
	p.flies(0, 103)
	p.flies(0)
}

// P16.4: with a peer's room of 0 one piece at a time, when nothing flies.
func TestTellByProbes(t *testing.T) {
	c := config()
	c.Room = 0
	p := start(t, c)
	p.send(texts(hundreds(4)...)...)
	for n := range uint32(4) {
		p.flies(0, 100+n)
		p.flies(0)
		p.hear(0, sack(100+n, 0))
	}
	p.idle(true)
	p = start(t, c)
	p.send(texts(hundreds(4)...)...)
	p.flies(0, 100)
	p.tick(3000, true)
	p.flies(3000, 100)
	p.flies(3000)
	p.hear(3000, sack(99, 200))
	p.flies(3000)
	p.hear(3000, sack(100, 200))
	p.flies(3000, 101)
}

// P16.4: all three together, in their order.
func TestTellInOrder(t *testing.T) {
	p := usual(t)
	p.sendFor(text(1, 1), 5, always, 0)
	p.send(text(0, 2))
	p.hear(0, flight(9, 0, freely(1, 3)))
	want := []api.Chunk{sack(6, 65533, block(3, 3)), forward(100, hop(1, 0)), flight(101, 0, text(0, 2))}
	p.tells(6, want...)
	p.due(3006)
	p.idle(false)
	p.hear(6, flight(9, 0, freely(1, 3)))
	p.tells(6, twice(sack(6, 65533, block(3, 3)), 9))
	p.tick(3006, true)
	p.tells(3006, want[1:]...)
	for _, c := range want {
		if !chunk.Shaped(c) {
			t.Errorf("%v is not shaped", c)
		}
	}
}

// P16.4: what is told is shaped as chapter 7 has it.
func TestTellShaped(t *testing.T) {
	p := usual(t)
	p.sendFor(text(1, 250), 5, always, 0)
	p.send(text(0, 250), freely(1, 250), text(1, 3))
	for range 3 {
		p.hear(0, flight(9, 0, freely(1, 3)), forward(7))
	}
	count := 0
	for _, now := range []int{0, 6, 7} {
		for _, c := range p.tell(now) {
			count++
			if _, err := chunk.Encode(c); !chunk.Shaped(c) || err != api.OK {
				t.Errorf("%v is not shaped", c)
			}
		}
		p.hear(now, flight(9, 0, freely(1, 3)))
	}
	if count != 11 {
		t.Errorf("there are told %d chunks", count)
	}
}

// P16.4: the timer begins with Data, and with a Forward, but not with a Sack; while it runs it is as it was.
func TestTellBeginsTimer(t *testing.T) {
	p := usual(t)
	p.hear(0, flight(7, 0, text(1, 3)))
	p.tell(10)
	p.stands()
	p.send(text(0, 1))
	p.stands()
	p.tells(20, flight(100, 0, text(0, 1)))
	p.due(3020)
	p.send(text(0, 1))
	p.tells(30, flight(101, 1, text(0, 1)))
	p.due(3020)
	p.tells(40)
	p.due(3020)
	p = usual(t)
	p.sendFor(text(0, 1), 5, always, 0)
	p.tells(20, forward(100, hop(0, 0)))
	p.due(3020)
	p.send(text(0, 1))
	p.tells(50, flight(101, 1, text(0, 1)))
	p.due(3020)
}

// P16.4: it begins also if something flies, though nothing is told: what came, and did not, once all else was lost.
func TestTellBeginsTimerOfWhatFlies(t *testing.T) {
	p := flying(t, 100, 100)
	p.hear(0, sack(99, 65536, block(2, 2)))
	p.tick(3000, true)
	p.hear(3000, sack(99, 65536))
	p.stands()
	p.tells(3000)
	p.due(9000)
	p.tick(9000, true)
	p.flies(9000, 100)
}

// P16.4: it does not begin, if all has come but not gone away, and nothing is told.
func TestTellBeginsNoTimer(t *testing.T) {
	p := flying(t, 100, 100)
	p.hear(0, sack(99, 65536, block(1, 2)))
	p.due(3000)
	p.tick(3000, true)
	p.tells(3000)
	p.stands()
	p.idle(false)
}
