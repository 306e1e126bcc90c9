package sendq_test

import (
	"slices"
	"strings"
	"testing"

	"bollard/api"
	"bollard/sendq"
)

// P15.3: a number that is less than the floor, or far away, is none, with whatever blocks.
func TestCumThatIsNone(t *testing.T) {
	for _, first := range firsts {
		for _, states := range []string{"", "W", "F", "G", "FFF", "CLG", "GGG", "LCFGWW"} {
			p := laid(t, first, states)
			for _, height := range []uint32{top, top - 1, top - 2, top - 1000, top - 65535, half + 1, half, half - 1, 65536, 65537, 1025, 1024, 100, 7} {
				p.noAck(height)
				p.noAck(height, block(1, 65535))
				p.noAck(height, block(1, 1), block(0, 3))
			}
		}
	}
}

// P15.3: a number that was told once is none once the floor is beyond it.
func TestCumBelowTheFloor(t *testing.T) {
	for _, first := range firsts {
		p := start(t, first)
		p.tens(5)
		p.takes(0, 50, 1, 2, 3, 4, 5)
		p.acks(sendq.Result{Bytes: 20, Sample: 9, Moved: true}, 2, 9)
		for _, below := range []uint32{1, 2, 3, 4, 100} {
			p.noAck(-below)
			p.noAck(-below, block(1, 10))
		}
		p.acks(sendq.Result{Bytes: 30, Sample: 9, Moved: true}, 3, 9)
		for _, below := range []uint32{1, 2, 3, 4, 5, 6} {
			p.noAck(-below)
		}
	}
}

// P15.3: the number of a Waiting entry, of one behind a Waiting entry, and of none.
func TestCumNotReached(t *testing.T) {
	for _, first := range firsts {
		for _, x := range []struct {
			states  string
			reached uint32
		}{
			{"", 0}, {"W", 0}, {"WW", 0}, {"WG", 0}, {"WGG", 0}, {"GW", 1}, {"GWG", 1}, {"GWGWG", 1}, {"FW", 1}, {"FWGG", 1}, {"LCW", 2}, {"FFFFW", 4}, {"CGWGW", 2},
			{"F", 1}, {"L", 1}, {"C", 1}, {"G", 1}, {"FLCG", 4}, {"CFG", 3}, {"GGF", 3},
		} {
			for height := range uint32(8) {
				p := laid(t, first, x.states)
				if height > x.reached {
					p.noAck(height)
					p.noAck(height, block(1, 9))
					continue
				}
				if r, ok := p.ack(height, 100); !ok || r.Moved != (height > 0) {
					t.Errorf("%s: Ack at the height %d is %v, %v", x.states, height, r, ok)
				}
			}
		}
	}
}

// P15.3: the floor is an answer too, of which nothing goes away.
func TestCumIsTheFloor(t *testing.T) {
	for _, first := range firsts {
		for _, states := range []string{"", "W", "F", "L", "G", "FLGW", "GWG"} {
			p := laid(t, first, states)
			p.acks(sendq.Result{Sample: -1}, 0, 300)
			p.states(states)
			p.acks(sendq.Result{Sample: -1}, 0, 300)
			p.states(states)
		}
		p := laid(t, first, "FLW")
		p.acks(sendq.Result{Bytes: 10, Sample: -1}, 0, 300, block(2, 2))
		p.states("FCW")
	}
}

// P15.3: entries up to the number go away, those behind stay; Bytes counts what was neither Came nor Given.
func TestBytesThatGoAway(t *testing.T) {
	for _, first := range firsts {
		for count := range 4 {
			for _, states := range allStates(count) {
				sent := (states + "W")[:strings.Index(states+"W", "W")]
				for height := 1; height <= len(sent); height++ {
					p := laid(t, first, states)
					away := states[:height]
					open := strings.Count(away, "F") + strings.Count(away, "L")
					want := sendq.Result{Bytes: 10 * open, Sample: -1, Moved: true}
					if open > 0 {
						want.Sample = 7
					}
					// With nothing told of the entries left, those of them that Came fly again.
					p.acks(want, uint32(height), 107)
					p.states(strings.ReplaceAll(states[height:], "C", "F"))
				}
			}
		}
	}
}

// P15.3: Data of all lengths is counted as it is.
func TestBytesOfLengths(t *testing.T) {
	p := start(t, top-3)
	p.singles(1, 1172, 300, 16384, 70000, 2, 65536)
	p.take(5, greatest)
	p.acks(sendq.Result{Bytes: 1172 + 70000, Sample: -1}, 0, 5, block(2, 2), block(5, 5))
	p.acks(sendq.Result{Bytes: 1 + 300 + 16384, Sample: 1, Moved: true}, 4, 6, block(1, 1))
	p.acks(sendq.Result{Bytes: 2 + 65536, Sample: 2, Moved: true}, 3, 7)
	p.acks(sendq.Result{Sample: -1}, 0, 8)
}

// P15.3: Moved is of entries that go away alone, whatever their states.
func TestMoved(t *testing.T) {
	p := laid(t, 9, "CGFFW")
	p.acks(sendq.Result{Sample: -1, Moved: true}, 1, 100)
	p.acks(sendq.Result{Sample: -1, Moved: true}, 1, 100)
	p.acks(sendq.Result{Bytes: 10, Sample: -1}, 0, 100, block(2, 2))
	p.acks(sendq.Result{Bytes: 10, Sample: 0, Moved: true}, 1, 100, block(1, 1))
	p.acks(sendq.Result{Sample: -1, Moved: true}, 1, 100)
	p.acks(sendq.Result{Sample: -1}, 0, 100)
	p.states("W")
}

// sampled has four messages that were sent at 10, 20, 30 and 40; those told by their heights once more at 50.
func sampled(t *testing.T, again ...uint16) *pair {
	t.Helper()
	p := start(t, top-1)
	p.tens(4)
	for i := range 4 {
		p.takes(10*(i+1), 10, uint32(i+1))
	}
	var others []api.Block
	for h := uint16(1); h <= 4; h++ {
		if !slices.Contains(again, h) {
			others = append(others, block(h, h))
		}
	}
	p.ack(0, 50, others...)
	p.timeout(len(again))
	p.take(50, 40)
	p.ack(0, 50)
	p.states("FFFF")
	return p
}

// P15.3: Sample is of the last one that was sent once.
func TestSample(t *testing.T) {
	for _, x := range []struct {
		again  []uint16
		height uint32
		want   int
	}{
		{nil, 0, -1}, {nil, 1, 90}, {nil, 2, 80}, {nil, 3, 70}, {nil, 4, 60},
		{[]uint16{4}, 4, 70}, {[]uint16{3}, 4, 60}, {[]uint16{3}, 3, 80}, {[]uint16{3, 4}, 4, 80}, {[]uint16{3, 4}, 3, 80},
		{[]uint16{1}, 1, -1}, {[]uint16{1}, 2, 80}, {[]uint16{1, 2}, 2, -1}, {[]uint16{1, 2}, 3, 70}, {[]uint16{1, 4}, 4, 70}, {[]uint16{1, 4}, 1, -1},
	} {
		p := sampled(t, x.again...)
		p.acks(sendq.Result{Bytes: 10 * int(x.height), Sample: x.want, Moved: x.height > 0}, x.height, 100)
	}
}

// P15.3: all that were sent more often: no Sample.
func TestSampleOfNone(t *testing.T) {
	p := start(t, 0)
	p.tens(3)
	for now := range 5 {
		p.takes(now, 30, 1, 2, 3)
		p.timeout(3)
	}
	p.acks(sendq.Result{Bytes: 20, Sample: -1, Moved: true}, 2, 100)
	p.acks(sendq.Result{Bytes: 10, Sample: -1, Moved: true}, 1, 100)
	p.tens(1)
	p.takes(200, 10, 1)
	p.acks(sendq.Result{Bytes: 10, Sample: 50, Moved: true}, 1, 250)
}

// P15.3: one that is Lost, but was sent once, has a Sample.
func TestSampleOfLost(t *testing.T) {
	p := start(t, top)
	p.tens(2)
	p.takes(10, 20, 1, 2)
	p.timeout(2)
	p.acks(sendq.Result{Bytes: 10, Sample: 90, Moved: true}, 1, 100)
	p.acks(sendq.Result{Bytes: 10, Sample: 91, Moved: true}, 1, 101)
}

// P15.3: those that Came, or are Given, have no Sample, though they were sent once; one that flies again has.
func TestSampleOfWhatCame(t *testing.T) {
	p := laid(t, 7, "FCG")
	p.acks(sendq.Result{Bytes: 10, Sample: 30, Moved: true}, 3, 130)
	p = laid(t, 7, "CGC")
	p.acks(sendq.Result{Sample: -1, Moved: true}, 3, 130)
	p = laid(t, 7, "CC")
	p.acks(sendq.Result{Sample: -1}, 0, 120, block(1, 1))
	p.states("CF")
	p.acks(sendq.Result{Bytes: 10, Sample: 30, Moved: true}, 2, 130)
}

// P15.3: what becomes Came by a block has no Sample.
func TestNoSampleOfBlocks(t *testing.T) {
	p := laid(t, top, "FFF")
	p.acks(sendq.Result{Bytes: 20, Sample: -1}, 0, 130, block(2, 3))
	p.acks(sendq.Result{Bytes: 10, Sample: 31, Moved: true}, 1, 131, block(1, 2))
}

// P15.3: the Sample of a now below when it was sent is below 0, and one that is -1 is told too.
func TestSampleBelow(t *testing.T) {
	for _, x := range []struct{ sent, now, want int }{
		{100, 100, 0}, {100, 101, 1}, {100, 99, -1}, {100, 98, -2}, {100, 0, -100}, {100, -100, -200}, {-100, -50, 50}, {-100, -150, -50}, {0, greatest, greatest}, {0, least, least}, {-1, greatest - 1, greatest}, {greatest, 0, -greatest},
	} {
		p := start(t, 5)
		p.tens(1)
		p.takes(x.sent, 10, 1)
		p.acks(sendq.Result{Bytes: 10, Sample: x.want, Moved: true}, 1, x.now)
	}
}

// P15.3: step by step, all numbers of a queue that is full.
func TestAckOfMany(t *testing.T) {
	for _, step := range []uint32{1, 3, 100, 1024} {
		p := start(t, top-700)
		p.push(-1, -1, many(1024)...)
		p.take(10, 1024)
		for left := uint32(1024); left > 0; {
			n := min(step, left)
			p.noAck(left + 1)
			p.acks(sendq.Result{Bytes: int(n), Sample: 5, Moved: true}, n, 15)
			left -= n
		}
		if p.queue.Floor() != 322 || p.queue.Next() != 323 {
			t.Errorf("Floor is %d, Next %d", p.queue.Floor(), p.queue.Next())
		}
	}
}

// P15.3: rows of all states, all numbers, and many blocks, and what comes of them when told once more.
func TestAckOfAllStates(t *testing.T) {
	lists := [][]api.Block{
		nil, {block(1, 1)}, {block(2, 2)}, {block(3, 3)}, {block(2, 3)}, {block(1, 9)}, {block(0, 0)}, {block(0, 1)}, {block(3, 1)}, {block(1, 1), block(3, 3)}, {block(3, 4), block(1, 2)}, {block(65535, 1), block(2, 65535)},
	}
	for count := range 5 {
		for _, states := range allStates(count) {
			for height := top - 1; height != uint32(count+2); height++ {
				for i, blocks := range lists {
					p := laid(t, top-2, states)
					p.ack(height, 107, blocks...)
					p.ack(0, 108, lists[(i*5+1)%len(lists)]...)
					p.ack(0, 109, block(4, 4), block(2, 2))
					p.take(110, greatest)
					p.ack(1, 120)
				}
			}
		}
	}
}
