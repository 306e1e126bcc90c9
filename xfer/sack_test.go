package xfer_test

import (
	"slices"
	"testing"

	"bollard/api"
)

// flying is a pair that has sent messages of so many octets at 0, from 100 on.
func flying(t *testing.T, octets ...int) *pair {
	t.Helper()
	p := usual(t)
	p.send(texts(octets...)...)
	p.tell(0)
	return p
}

// hundreds are so many times 100, behind others.
func hundreds(count int, others ...int) []int {
	return slices.Concat(others, slices.Repeat([]int{100}, count))
}

// P16.2: a Sack that is none: ErrForm, and nothing has changed, the peer's room neither.
func TestSackThatIsNone(t *testing.T) {
	for _, first := range firsts {
		c := config()
		c.First = first
		for _, height := range []uint32{top, top - 1, top - 1000, half, half - 1, half + 1, 4, 5, 6, 100, 1024, 65536} {
			p := start(t, c)
			p.send(texts(hundreds(5)...)...)
			p.flies(0, first, first+1, first+2)
			p.wrong(api.ErrForm, sack(first-1+height, 0))
			p.wrong(api.ErrForm, sack(first-1+height, top, block(1, 3)))
			p.wrong(api.ErrForm, sack(first-1+height, 0, block(2, 2), block(1, 65535)))
			p.due(3000)
			p.tells(0)
			p.hear(0, sack(first-1, 65536))
			p.flies(0)
			p.tick(3000, true)
			p.wrong(api.ErrForm, sack(first-1+height, 0))
			p.failed(1)
			p.stands()
		}
	}
}

// P16.2: behind a Sack that is none the peer's room is as it was: what has room by it is told.
func TestRoomBehindSackThatIsNone(t *testing.T) {
	for _, room := range []uint32{0, 1, 50, 383} {
		p := flying(t, 100, 100, 100)
		p.wrong(api.ErrForm, sack(103, room))
		p.wrong(api.ErrForm, sack(98, room))
		p.send(text(1, 84))
		p.flies(0, 103)
	}
	p := flying(t, 100, 100, 100)
	p.hear(0, sack(99, 0))
	p.wrong(api.ErrForm, sack(103, 65536))
	p.wrong(api.ErrForm, sack(98, 65536))
	p.send(text(1, 84))
	p.flies(0)
}

// P16.2: what waits is not reached, nor is anything behind it.
func TestSackOfWhatWaits(t *testing.T) {
	p := usual(t)
	p.send(texts(100, 100)...)
	p.wrong(api.ErrForm, sack(100, 65536))
	p.wrong(api.ErrForm, sack(101, 65536))
	p.hear(0, sack(99, 65536))
	p.idle(false)
	p.stands()
	p.flies(0, 100, 101)
	p.hear(0, sack(101, 65536))
	p.idle(true)
	p.wrong(api.ErrForm, sack(102, 65536))
	p.wrong(api.ErrForm, sack(100, 65536))
	p.hear(0, sack(101, 65536))
}

// P16.2: the peer's room is B, less what flies.
func TestSackRoom(t *testing.T) {
	for _, x := range []struct {
		room uint32
		want []uint32
	}{
		{0, nil}, {100, nil}, {299, nil}, {300, nil}, {383, nil}, {384, []uint32{103}}, {65536, []uint32{103}}, {half, []uint32{103}}, {top, []uint32{103}},
	} {
		p := flying(t, 100, 100, 100)
		p.hear(0, sack(99, x.room))
		p.send(text(1, 84))
		p.flies(0, x.want...)
	}
}

// P16.2: the peer's room when nothing flies.
func TestSackRoomWhenNothingFlies(t *testing.T) {
	for _, x := range []struct {
		room uint32
		want []uint32
	}{
		{0, []uint32{103}}, {1, []uint32{103}}, {128, []uint32{103}}, {199, []uint32{103}}, {200, []uint32{103, 104}}, {299, []uint32{103, 104}}, {300, []uint32{103, 104, 105}}, {65536, []uint32{103, 104, 105}}, {top, []uint32{103, 104, 105}},
	} {
		p := flying(t, hundreds(9)...)
		p.hear(0, sack(102, x.room))
		p.flies(0, x.want...)
		p.flies(0)
	}
}

// P16.2: the room is that of the last Sack, be it greater or lesser.
func TestSackRoomOfTheLast(t *testing.T) {
	p := flying(t, 100, 100, 100)
	p.hear(0, sack(99, 0), sack(99, 384))
	p.send(text(1, 84))
	p.flies(0, 103)
	p = flying(t, 100, 100, 100)
	p.hear(0, sack(99, 65536), sack(99, 383))
	p.send(text(1, 84))
	p.flies(0)
}

// P16.2: a Sample of 0 or more is sampled; the timer runs by the wait of then.
func TestSackSample(t *testing.T) {
	for _, x := range []struct{ told, heard, wait int }{
		{0, 0, 1000}, {5, 5, 1000}, {0, 1, 1000}, {0, 333, 1000}, {0, 334, 1002}, {10, 110, 1000}, {10, 810, 2400}, {0, 1000, 3000}, {0, 2000, 6000}, {0, 20000, 60000}, {0, 30000, 60000}, {0, 1 << 30, 60000},
		{0, 1<<30 + 1, 3000}, {0, latest, 3000}, {5, 4, 3000}, {5, 3, 3000}, {5, 0, 3000}, {latest, 0, 3000},
		{least, 0, 1000}, {-7, -9, 1000}, {-1, 800, 2400}, {0, least, 1000}, {5, least, 3000}, {latest - 800, greatest, 2400}, {latest, latest + 5, 1000}, {greatest, latest, 1000},
	} {
		p := usual(t)
		p.send(texts(100, 100)...)
		p.tell(x.told)
		p.hear(x.heard, sack(100, 65536))
		p.due(near(x.heard) + x.wait)
	}
}

// P16.2: of what was told more than once, of what came by a block, and of nothing there is no Sample.
func TestSackWithoutSample(t *testing.T) {
	p := flying(t, 100, 100)
	p.tick(3000, true)
	p.flies(3000, 100)
	p.hear(3800, sack(100, 65536))
	p.due(3800 + 6000)
	p = flying(t, 100, 100)
	p.hear(10, sack(99, 65536))
	p.hear(20, sack(99, 65536, block(2, 2)))
	p.due(3000)
	p.tick(3000, true)
	p.tell(3000)
	p.due(3000 + 6000)
}

// P16.2: a Sample behind another one.
func TestSackSamples(t *testing.T) {
	p := flying(t, 100, 100, 100)
	p.hear(800, sack(100, 65536))
	p.due(800 + 2400)
	p.hear(400, sack(101, 65536))
	p.due(400 + 750 + 4*400)
}

// P16.2: the window grows, if as much as Cwnd flew ahead of the Sack.
func TestSackGrows(t *testing.T) {
	p := flying(t, hundreds(20, 100, 100, 100, 84)...)
	p.hear(0, sack(100, 65536))
	p.flies(0, 104, 105)
	p = flying(t, hundreds(20, 100, 100, 100, 84)...)
	p.hear(0, sack(103, 65536))
	p.flies(0, 104, 105, 106, 107, 108)
	p = flying(t, hundreds(20, 100, 100, 100, 84)...)
	p.hear(0, sack(99, 65536, block(2, 2)))
	p.flies(0, 104, 105)
}

// P16.2: it does not grow, if less flew, be it one octet less.
func TestSackDoesNotGrow(t *testing.T) {
	for _, last := range []int{1, 50, 83} {
		p := flying(t, 100, 100, 100, last)
		p.hear(0, sack(103, 65536))
		p.send(texts(hundreds(9)...)...)
		p.flies(0, 104, 105, 106)
	}
	p := flying(t, hundreds(9)...)
	p.hear(0, sack(101, 65536))
	p.flies(0, 103, 104)
}

// P16.2: more than Cwnd may have flown, too: what flies again once the window is small.
func TestSackGrowsOfMore(t *testing.T) {
	p := flying(t, hundreds(20)...)
	p.hear(0, sack(99, 65536, block(2, 3)))
	p.tick(3000, true)
	p.hear(3000, sack(99, 65536))
	p.hear(3000, sack(102, 65536))
	p.flies(3000, 103, 104)
}

// missed is a pair of which the number 100 was missed three times, and lost by that; 101 to 103 came.
func missed(t *testing.T, waiting int) *pair {
	t.Helper()
	p := flying(t, hundreds(waiting, 100, 100, 100, 84)...)
	p.hear(0, sack(99, 65536, block(2, 2)), sack(99, 65536, block(2, 3)))
	p.hear(0, sack(99, 65536, block(2, 4)))
	return p
}

// P16.2: of a Loss the window is less (here four times Mtu), behind what has come; what is lost is told first.
func TestSackLoss(t *testing.T) {
	p := missed(t, 20)
	p.flies(0, 100, 104, 105, 106, 107)
	p.due(3000)
}

// P16.2: what has come lets the window grow ahead of the Loss that halves it.
func TestSackGrowsAheadOfLoss(t *testing.T) {
	c := config()
	c.Mtu = 1
	p := start(t, c)
	p.send(text(0, 500))
	p.flies(0, 100, 101, 102)
	for n := range uint32(18) {
		p.hear(0, sack(100+n, 65536))
		p.flies(0, 103+2*n, 104+2*n)
	}
	p.hear(0, sack(117, 65536, block(2, 2)))
	p.flies(0, 139, 140)
	p.hear(0, sack(117, 65536, block(2, 3)))
	p.flies(0, 141, 142)
	// Of 23 it becomes 24, and of that 12.
	p.hear(0, sack(117, 65536, block(2, 4)))
	p.hear(0, sack(131, 65536))
	p.flies(0, 143)
}

// P16.2: until the queue's Next less 1 of then, 119, the window does not grow.
func TestSackExit(t *testing.T) {
	p := flying(t, slices.Repeat([]int{64}, 20)...)
	p.hear(0, sack(99, 65536, block(2, 2)), sack(99, 65536, block(2, 3)), sack(99, 65536, block(2, 4)))
	p.send(texts(slices.Repeat([]int{64}, 20)...)...)
	p.flies(0, 100, 106, 107, 108, 109, 110)
	p.hear(0, sack(105, 65536))
	p.flies(0, 111, 112, 113)
	p.hear(0, sack(110, 65536))
	p.flies(0, 114, 115, 116, 117, 118)
	p.hear(0, sack(118, 65536))
	p.flies(0, 119, 120, 121, 122, 123, 124, 125, 126)
	p.hear(0, sack(119, 65536))
	p.flies(0, 127)
	p.hear(0, sack(120, 65536))
	p.flies(0, 128, 129)
}

// P16.2: something Moved: no failures are counted any more; otherwise they are.
func TestSackFailures(t *testing.T) {
	p := flying(t, 100, 100, 100)
	for n, at := range []int{3000, 9000, 21000} {
		p.tick(at, true)
		p.tell(at)
		p.failed(n + 1)
	}
	p.hear(21000, sack(99, 65536))
	p.failed(3)
	p.hear(21000, sack(99, 65536, block(2, 3)))
	p.failed(3)
	p.wrong(api.ErrForm, sack(98, 65536))
	p.failed(3)
	p.hear(21000, sack(100, 65536, block(1, 2)))
	p.failed(0)
	p.hear(21000, sack(100, 65536))
	p.tick(81000, true)
	p.failed(1)
	p.hear(21000, sack(102, 65536))
	p.failed(0)
}

// P16.2: the timer stands when no entries are left.
func TestSackTimerStands(t *testing.T) {
	p := flying(t, 100, 100)
	p.due(3000)
	p.hear(10, sack(101, 65536))
	p.stands()
	p.hear(20, sack(101, 65536))
	p.stands()
	p.tick(latest, false)
}

// P16.2: the timer runs anew when something Moved, though it stood, and is as it was otherwise.
func TestSackTimer(t *testing.T) {
	p := flying(t, 100, 100, 100)
	p.hear(500, sack(99, 65536))
	p.due(3000)
	p.hear(600, sack(99, 65536, block(2, 2)))
	p.due(3000)
	p.hear(700, sack(100, 65536, block(1, 1)))
	p.due(700 + 2100)
	p.tick(2800, true)
	p.stands()
	p.hear(2900, sack(100, 65536, block(1, 1)))
	p.stands()
	p.hear(2900, sack(101, 65536))
	p.due(2900 + 4200)
	p.hear(latest+7, sack(102, 65536))
	p.stands()
}

// P16.2: what is waiting only is an entry, too.
func TestSackTimerOfWhatWaits(t *testing.T) {
	p := flying(t, hundreds(4)...)
	p.hear(100, sack(102, 65536))
	p.due(1100)
	p.idle(false)
}

// P16.2: fields that a Sack does not have are not looked at.
func TestSackOfAllFields(t *testing.T) {
	p := flying(t, 100, 100, 100)
	c := full(3)
	c.A, c.B, c.Blocks = 100, 65536, []api.Block{block(2, 2)}
	p.hear(0, c)
	p.idle(false)
	p.has()
	p.tells(0)
	p.tick(3000, true)
	p.flies(3000, 101)
}

// P16.2: numbers go round.
func TestSackGoesRound(t *testing.T) {
	c := config()
	c.First = top - 1
	p := start(t, c)
	p.send(texts(hundreds(9)...)...)
	p.flies(0, top-1, top, 0)
	p.wrong(api.ErrForm, sack(1, 0))
	p.hear(0, sack(top-1, 65536, block(2, 2)))
	p.flies(0, 1, 2)
	p.wrong(api.ErrForm, sack(top-2, 0))
	p.hear(0, sack(0, 65536))
	p.hear(0, sack(2, 65536))
	p.flies(0, 3, 4, 5)
}
