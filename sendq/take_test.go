package sendq_test

import (
	"testing"

	"bollard/sendq"
)

// P15.2: how much room there is.
func TestRoom(t *testing.T) {
	for _, first := range firsts {
		for _, x := range []struct {
			room int
			want []uint32
		}{
			{least, nil}, {-100, nil}, {-1, nil}, {0, nil}, {1, nil}, {9, nil},
			{10, []uint32{1}}, {11, []uint32{1}}, {29, []uint32{1}},
			{30, []uint32{1, 2}}, {31, []uint32{1, 2}}, {34, []uint32{1, 2}},
			{35, []uint32{1, 2, 3}}, {134, []uint32{1, 2, 3}},
			{135, []uint32{1, 2, 3, 4}}, {136, []uint32{1, 2, 3, 4, 5}}, {137, []uint32{1, 2, 3, 4, 5}},
			{65536, []uint32{1, 2, 3, 4, 5}}, {greatest, []uint32{1, 2, 3, 4, 5}},
		} {
			p := start(t, first)
			p.singles(10, 20, 5, 100, 1)
			p.takes(50, x.room, x.want...)
			flying := 0
			for i := range x.want {
				flying += []int{10, 20, 5, 100, 1}[i]
			}
			if p.queue.Flying() != flying || p.queue.Left() != 136-flying {
				t.Errorf("room %d: Flying is %d, Left %d, want %d flying", x.room, p.queue.Flying(), p.queue.Left(), flying)
			}
			p.takes(60, 136, []uint32{1, 2, 3, 4, 5}[len(x.want):]...)
			p.takes(70, greatest)
			p.states("FFFFF")
		}
	}
}

// P15.2: the first one that does not fit ends it, though a later one would fit.
func TestFirstThatDoesNotFit(t *testing.T) {
	p := start(t, top-1)
	p.singles(10, 50, 1, 2)
	p.takes(0, 20, 1)
	p.states("FWWW")
	p.takes(0, 49)
	p.takes(0, 52, 2, 3)
	p.timeout(3)
	p.states("LLLW")
	p.takes(0, 59, 1)
	p.takes(0, 49)
	p.states("FLLW")
	p.takes(0, 50, 2)
	p.takes(0, 3, 3, 4)
	p.states("FFFF")
}

// P15.2: the pieces of one message are not kept together.
func TestPiecesApart(t *testing.T) {
	p := start(t, top)
	p.push(-1, -1, piece(1, 2, begin, 10), piece(1, 2, 0, 10), piece(1, 2, end, 10))
	p.takes(0, 10, 1)
	p.takes(0, 20, 2, 3)
}

// P15.2: the Lost ones first, each in order, then those that are Waiting.
func TestLostFirst(t *testing.T) {
	for _, first := range firsts {
		for _, x := range []struct {
			states string
			want   []uint32
		}{
			{"LWW", []uint32{1, 2, 3}},
			{"FLCLWW", []uint32{2, 4, 5, 6}},
			{"FCG", nil},
			{"LFLFL", []uint32{1, 3, 5}},
			{"GWGWG", []uint32{2, 4}},
			{"CLGFWGW", []uint32{2, 5, 7}},
		} {
			p := laid(t, first, x.states)
			p.takes(200, 1000, x.want...)
			p.takes(200, 1000)
		}
	}
	p := start(t, top-2)
	p.tens(4)
	p.takes(0, 20, 1, 2)
	p.timeout(2)
	p.takes(1, 30, 1, 2, 3)
	p.states("FFFW")
	p.acks(sendq.Result{Bytes: 10, Sample: -1}, 0, 9, block(1, 1))
	p.timeout(2)
	p.takes(1, 30, 2, 3, 4)
	p.states("CFFF")
}

// P15.2: no Waiting one is told, if a Lost one did not fit, however short it is.
func TestNoWaitingBehindLost(t *testing.T) {
	p := start(t, top)
	p.singles(30, 20, 5, 1, 1)
	p.takes(0, 55, 1, 2, 3)
	p.timeout(3)
	p.takes(0, 10)
	p.takes(0, 29)
	p.states("LLLWW")
	p.takes(0, 30, 1)
	p.takes(0, 19)
	p.takes(0, 24, 2)
	p.takes(0, 4)
	p.states("FFLWW")
	p.takes(0, 6, 3, 4)
	p.takes(0, 0)
	p.takes(0, 1, 5)
}

// P15.2: of all states that may be, with all rooms up to more than all.
func TestTakeOfAllStates(t *testing.T) {
	for count := range 5 {
		for _, states := range allStates(count) {
			for room := -5; room <= 10*count+5; room += 5 {
				p := laid(t, top-1, states)
				p.take(200, room)
				p.take(201, 10)
				p.take(202, greatest)
				p.timeout(p.queue.Flying() / 10)
				p.take(203, greatest)
			}
		}
	}
}

// P15.2: each is sent once more, at now: what that is a Sample tells of one that was sent once, and Expire of how often.
func TestSentOnceMore(t *testing.T) {
	p := start(t, 0)
	p.push(-1, 2, data(10))
	for i, now := range []int{50, 60, 70} {
		p.takes(now, 10, 1)
		p.expire(1000, 0)
		p.timeout(1)
		if i < 2 {
			p.expire(1000, 0)
		}
	}
	p.expire(1000, 1)
	for _, now := range []int{least, -1, 0, 1, 77, greatest} {
		p := start(t, 0)
		p.singles(10, 20)
		p.takes(now, 10, 1)
		p.takes(now/2, 20, 2)
		p.acks(sendq.Result{Bytes: 10, Sample: 5, Moved: true}, 1, now+5)
		p.acks(sendq.Result{Bytes: 20, Sample: 6, Moved: true}, 1, now/2+6)
	}
}

// missed has an entry of ten octets that was missed so often, and as many behind it as make it missed five times more.
func missed(t *testing.T, first uint32, times int) *pair {
	t.Helper()
	p := start(t, first)
	p.tens(9)
	p.takes(100, 90, 1, 2, 3, 4, 5, 6, 7, 8, 9)
	for i := range times {
		p.acks(sendq.Result{Bytes: 10, Sample: -1}, 0, 100, block(2, uint16(2+i)))
	}
	return p
}

// P15.2: one that was missed twice, was Lost and is taken again is to be missed three times again.
func TestNeverMissedWhenTaken(t *testing.T) {
	for times := range 3 {
		p := missed(t, top-1, times)
		p.timeout(9 - times)
		p.takes(200, 10, 1)
		for i := range 2 {
			p.acks(sendq.Result{Bytes: 10, Sample: -1}, 0, 100, block(2, uint16(2+times+i)))
			if got, _ := p.queue.State(top - 1); got != sendq.Flying {
				t.Fatalf("missed %d times, then %d times: State is %d", times, i+1, got)
			}
		}
		p.acks(sendq.Result{Bytes: 10, Sample: -1, Loss: true}, 0, 100, block(2, uint16(4+times)))
		p.takes(300, 10, 1)
		p.acks(sendq.Result{Bytes: 10, Sample: -1}, 0, 100, block(2, uint16(5+times)))
	}
}
