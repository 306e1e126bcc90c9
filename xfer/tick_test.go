package xfer_test

import (
	"testing"

	"bollard/xfer"
)

// P16.3: of a nil End, and while the timer stands, nothing is due.
func TestTickOfNothing(t *testing.T) {
	var x *xfer.End
	p := usual(t)
	for _, now := range []int{least, -1, 0, 1, 3000, latest, greatest} {
		if x.Tick(now) {
			t.Errorf("Tick(%d) of nil is true", now)
		}
		p.tick(now, false)
	}
	p.send(text(0, 1))
	p.tick(latest, false)
	p.hear(0, flight(7, 0, text(0, 1)))
	p.tick(latest, false)
	p.failed(0)
}

// P16.3: the timer runs to later, to now, and to earlier.
func TestTickTimes(t *testing.T) {
	for _, x := range []struct {
		told, now int
		want      bool
	}{
		{0, 2999, false}, {0, 3000, true}, {0, 3001, true}, {0, latest, true}, {0, greatest, true}, {0, 0, false}, {0, -1, false}, {0, least, false},
		{7, 3006, false}, {7, 3007, true}, {7, 9000, true}, {-50, 2999, false}, {-50, 3000, true}, {least, 3000, true},
		{latest - 3001, latest - 2, false}, {latest - 3000, latest - 1, false}, {latest - 3000, latest, true}, {latest - 3000, greatest, true},
		{latest - 2999, latest, false}, {latest - 2999, latest + 1, false}, {latest - 2999, greatest, false}, {latest, greatest, false}, {greatest, greatest, false},
	} {
		p := usual(t)
		p.send(text(0, 1))
		p.tell(x.told)
		p.due(near(x.told) + 3000)
		p.tick(x.now, x.want)
		if x.want {
			p.stands()
			p.failed(1)
			p.tick(x.now, false)
			p.tick(greatest, false)
			p.failed(1)
		} else {
			p.due(near(x.told) + 3000)
			p.failed(0)
			p.tells(x.told)
		}
	}
}

// P16.3: all that flies is lost, the window is one Mtu, and the waiting is twice as long each time.
func TestTickLoses(t *testing.T) {
	p := flying(t, hundreds(9)...)
	at := 3000
	for n, wait := range []int{6000, 12000, 24000, 48000, 60000, 60000} {
		p.tick(at, true)
		p.failed(n + 1)
		p.stands()
		p.flies(at, 100)
		at += wait
		p.due(at)
	}
	p.hear(at, sack(100, 65536))
	p.failed(0)
	p.due(at + 60000)
	p.flies(at, 101)
}

// P16.3: the window's Thresh: below it (four times Mtu) the window grows by what comes, above it slowly.
func TestTickWindow(t *testing.T) {
	p := flying(t, 100, 28, 100, 28, 100, 28, 100, 28, 100, 28, 100, 28, 100, 28, 100, 28)
	p.tick(3000, true)
	p.flies(3000, 100, 101)
	p.hear(3000, sack(101, 65536))
	p.flies(3000, 102, 103, 104, 105)
	p.hear(3000, sack(105, 65536))
	p.flies(3000, 106, 107, 108, 109, 110, 111)
	p.hear(3000, sack(111, 65536))
	p.send(texts(hundreds(30)...)...)
	p.flies(3000, 112, 113, 114, 115, 116, 117)
	p.hear(3000, sack(117, 65536))
	p.flies(3000, 118, 119, 120, 121, 122)
}

// P16.3: what Came by a block does not fly, and so is not lost; what waits is not lost either.
func TestTickLeavesWhatCame(t *testing.T) {
	p := flying(t, hundreds(5)...)
	p.hear(0, sack(99, 65536, block(2, 2)))
	p.tick(3000, true)
	p.flies(3000, 100)
	p.hear(3000, sack(101, 65536))
	p.flies(3000, 102)
	p.hear(3000, sack(102, 65536))
	p.flies(3000, 103)
}

// P16.3: it is told anew what to skip, each time.
func TestTickTellsForwardAnew(t *testing.T) {
	p := usual(t)
	p.sendFor(text(1, 1), 5, always, 0)
	p.tells(6, forward(100, hop(1, 0)))
	p.tells(7)
	p.due(3006)
	p.tick(3005, false)
	p.tells(3005)
	for _, at := range []int{3006, 9006, 21006} {
		p.tick(at, true)
		p.tells(at, forward(100, hop(1, 0)))
		p.tells(at)
	}
	p.failed(3)
	p.hear(21006, sack(100, 65536))
	p.failed(0)
	p.idle(true)
	p.stands()
}

// P16.3: an answer that is owed is owed still.
func TestTickAndAnswer(t *testing.T) {
	p := flying(t, 100)
	p.hear(0, flight(7, 0, text(0, 1)))
	p.tick(3000, true)
	p.tells(3000, sack(7, 65535), flight(100, 0, text(0, 100)))
}
