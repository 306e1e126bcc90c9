package xfer_test

import (
	"testing"

	"bollard/api"
	"bollard/xfer"
)

// P16.5: of a nil End there is nothing, and it is idle.
func TestNil(t *testing.T) {
	var x *xfer.End
	if l := x.Messages(); len(l) != 0 {
		t.Errorf("Messages is %v", l)
	}
	for _, stream := range []uint16{0, 1, 64, 65535} {
		x.Restart(stream, true)
		x.Restart(stream, false)
	}
	if at, runs := x.Due(); at != 0 || runs {
		t.Errorf("Due is %d, %v", at, runs)
	}
	if !x.Idle() || x.Failures() != 0 || x.Cum() != 0 || x.Next() != 0 {
		t.Errorf("Idle is %v, Failures %d, Cum %d, Next %d", x.Idle(), x.Failures(), x.Cum(), x.Next())
	}
}

// P1: an End that nobody made by New does not panic.
func TestZeroValue(t *testing.T) {
	for kind := range 256 {
		var x xfer.End
		for range 2 {
			x.Send(text(0, 1), 0, 0, 0)
			x.Send(text(0, 0), -1, -1, greatest)
			for n := range uint32(3) {
				c := full(uint8(kind))
				c.A = n - 1
				x.Hear(c, 0)
				x.Hear(api.Chunk{Kind: uint8(kind), A: n - 1}, greatest)
			}
			x.Tell(0)
			x.Tell(greatest)
			x.Tick(greatest)
			x.Messages()
			x.Restart(0, true)
			x.Restart(0, false)
			x.Due()
			x.Idle()
			x.Failures()
			x.Cum()
			x.Next()
		}
	}
}

// P16.5: Messages are those that are ready, in order, each once.
func TestMessages(t *testing.T) {
	p := usual(t)
	p.has()
	p.hear(0, flight(8, 1, text(1, 2)), flight(9, 0, freely(0, 3)))
	p.has(freely(0, 3))
	p.hear(0, flight(10, 0, text(0, 4)), flight(7, 0, text(1, 1)), flight(11, 1, text(0, 5)))
	p.has(text(0, 4), text(1, 1), text(1, 2), text(0, 5))
	p.has()
	p.idle(false)
	p.tells(0, sack(11, 65536))
	p.has()
}

// P16.5: Restart of what comes in: the stream begins anew with its message 0, and what waited on it is dropped.
func TestRestartIn(t *testing.T) {
	p := usual(t)
	p.hear(0, flight(7, 0, text(1, 1)), flight(8, 0, text(0, 2)), flight(9, 1, text(1, 3)), flight(10, 3, text(1, 4)), flight(11, 1, text(0, 5)))
	p.restart(1, true)
	p.has(text(1, 1), text(0, 2), text(1, 3), text(0, 5))
	p.tells(0, sack(11, 65536))
	p.hear(0, flight(12, 0, text(1, 6)), flight(13, 1, text(1, 7)), flight(14, 2, text(0, 8)), flight(15, 0, text(0, 9)))
	p.has(text(1, 6), text(1, 7), text(0, 8))
}

// P16.5: Restart of what goes out: the stream's next number is 0, others are as they were, and what was sent has its number.
func TestRestartOut(t *testing.T) {
	p := usual(t)
	p.send(text(0, 1), text(1, 2), text(1, 3), text(0, 4))
	p.restart(1, false)
	p.send(text(1, 5), text(0, 6), text(1, 7))
	p.tells(0, flight(100, 0, text(0, 1)), flight(101, 0, text(1, 2)), flight(102, 1, text(1, 3)), flight(103, 1, text(0, 4)), flight(104, 0, text(1, 5)), flight(105, 2, text(0, 6)), flight(106, 1, text(1, 7)))
	p.idle(false)
	p.due(3000)
}

// P16.5: one way is restarted, the other one is as it was.
func TestRestartOneWay(t *testing.T) {
	p := usual(t)
	p.send(text(1, 1))
	p.hear(0, flight(7, 0, text(1, 2)))
	p.restart(1, true)
	p.send(text(1, 3))
	p.tells(0, sack(7, 65534), flight(100, 0, text(1, 1)), flight(101, 1, text(1, 3)))
	p.hear(0, flight(8, 0, text(1, 4)))
	p.restart(1, false)
	p.hear(0, flight(9, 1, text(1, 5)))
	p.send(text(1, 6))
	p.tells(0, sack(9, 65536-11), flight(102, 0, text(1, 6)))
	p.has(text(1, 2), text(1, 4), text(1, 5))
}

// P16.5: Restart of a stream that is none changes nothing.
func TestRestartOfNoStream(t *testing.T) {
	c := config()
	c.Out, c.In = 2, 3
	p := start(t, c)
	p.send(text(1, 1), text(0, 1))
	p.hear(0, flight(7, 0, text(2, 2)), flight(9, 2, text(2, 3)))
	for _, stream := range []uint16{2, 3, 63, 64, 65, 1000, 65535} {
		p.restart(stream, false)
		if stream > 2 {
			p.restart(stream, true)
		}
	}
	p.send(text(1, 4), text(0, 4))
	p.hear(0, flight(8, 1, text(2, 5)))
	p.has(text(2, 2), text(2, 5), text(2, 3))
	p.tells(0, sack(9, 65536), flight(100, 0, text(1, 1)), flight(101, 0, text(0, 1)), flight(102, 1, text(1, 4)), flight(103, 1, text(0, 4)))
}

// P16.5: Idle, Next, Cum, Due, Failures after each call.
func TestStateAfterEachCall(t *testing.T) {
	p := usual(t)
	state := func(next, cum uint32, failures int, idle bool, due int) {
		t.Helper()
		at, runs := p.end.Due()
		if p.end.Next() != next || p.end.Cum() != cum || p.end.Failures() != failures || p.end.Idle() != idle || at != due || runs != (due > 0) {
			t.Fatalf("Next is %d, Cum %d, Failures %d, Idle %v, Due %d, %v, want %d, %d, %d, %v, %d", p.end.Next(), p.end.Cum(), p.end.Failures(), p.end.Idle(), at, runs, next, cum, failures, idle, due)
		}
	}
	state(100, 6, 0, true, 0)
	p.send(text(0, 250))
	state(103, 6, 0, false, 0)
	p.flies(1, 100, 101, 102)
	state(103, 6, 0, false, 3001)
	p.tick(3001, true)
	state(103, 6, 1, false, 0)
	p.flies(3002, 100)
	state(103, 6, 1, false, 9002)
	p.hear(3003, flight(8, 0, freely(0, 1)))
	state(103, 6, 1, false, 9002)
	p.hear(3003, flight(7, 0, freely(0, 1)))
	state(103, 8, 1, false, 9002)
	p.hear(3004, sack(101, 65536))
	state(103, 8, 0, false, 3004+3003+4*1501)
	p.hear(3004, sack(102, 65536))
	state(103, 8, 0, false, 0)
	p.tells(3005, sack(8, 65534))
	state(103, 8, 0, true, 0)
	p.messages()
	p.restart(0, true)
	p.restart(0, false)
	state(103, 8, 0, true, 0)
	p.hear(3006, forward(20))
	state(103, 20, 0, false, 0)
	p.tells(3006, sack(20, 65536))
	state(103, 20, 0, true, 0)
}
