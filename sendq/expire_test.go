package sendq_test

import (
	"slices"
	"strings"
	"testing"

	"bollard/sendq"
)

// P15.4: all that fly are Lost, and none of the others; how many.
func TestTimeout(t *testing.T) {
	for _, first := range firsts {
		for _, states := range []string{"", "F", "L", "C", "G", "W", "FF", "FLCGW", "FFLFCFGFWWG", "CCGLLWG", "FFFFFFFFFFFF"} {
			p := laid(t, first, states)
			p.timeout(strings.Count(states, "F"))
			p.states(strings.ReplaceAll(states, "F", "L"))
			if p.queue.Flying() != 0 {
				t.Errorf("%s: Flying is %d", states, p.queue.Flying())
			}
			p.timeout(0)
			p.states(strings.ReplaceAll(states, "F", "L"))
		}
	}
	p := start(t, top-600)
	p.push(-1, -1, many(1024)...)
	p.take(0, 1000)
	p.timeout(1000)
	p.takes(0, 1, 1)
	p.timeout(1)
}

// P15.4: what Timeout has Lost is told again by Take, ahead of what waits.
func TestTimeoutAndTake(t *testing.T) {
	p := laid(t, top-1, "CFGFFW")
	p.timeout(3)
	p.takes(200, 100, 2, 4, 5, 6)
	p.timeout(4)
	p.acks(sendq.Result{Bytes: 20, Sample: -1}, 0, 300, block(1, 1), block(4, 5))
	p.states("CLGCCL")
}

// P15.4: until -1, 0 and above, a now below, at and above it.
func TestUntil(t *testing.T) {
	for _, x := range []struct {
		until, now int
		want       bool
	}{
		{-1, greatest, false}, {-1, 0, false}, {-1, -1, false}, {-2, 100, false}, {-100, -99, false}, {least, least + 1, false}, {least, greatest, false},
		{0, -1, false}, {0, 0, false}, {0, 1, true}, {0, 100, true}, {0, least, false}, {0, greatest, true},
		{1, 0, false}, {1, 1, false}, {1, 2, true},
		{50, 49, false}, {50, 50, false}, {50, 51, true}, {50, greatest, true}, {50, -100, false}, {50, least, false},
		{greatest - 1, greatest, true}, {greatest, greatest, false}, {greatest, 0, false},
	} {
		for _, states := range []string{"W", "F", "L"} {
			p := start(t, top)
			p.push(x.until, -1, data(10))
			if states != "W" {
				p.takes(5, 10, 1)
			}
			if states == "L" {
				p.timeout(1)
			}
			p.states(states)
			if x.want {
				p.expire(x.now, 1)
				p.states("G")
			} else {
				p.expire(x.now, 0)
				p.states(states)
			}
			p.expire(x.now, 0)
		}
	}
}

// P15.4: tries -1, 0 and above, of one that is Lost: given up, once it was sent more often.
func TestTries(t *testing.T) {
	for _, x := range []struct{ tries, sends int }{
		{0, 1}, {1, 2}, {2, 3}, {3, 4}, {10, 11}, {100, 101},
	} {
		for _, now := range []int{least, -1, 0, 1, 1000, greatest} {
			p := start(t, top)
			p.push(-1, x.tries, data(10))
			p.expire(now, 0)
			for range x.sends - 1 {
				p.takes(5, 10, 1)
				p.expire(now, 0)
				p.timeout(1)
				p.expire(now, 0)
				p.states("L")
			}
			p.takes(5, 10, 1)
			p.expire(now, 0)
			p.states("F")
			p.timeout(1)
			p.expire(now, 1)
			p.states("G")
			p.expire(now, 0)
		}
	}
}

// P15.4: tries below 0, or very many, give nothing up.
func TestTriesWithoutEnd(t *testing.T) {
	for _, tries := range []int{-1, -2, least, 500, greatest} {
		p := start(t, 3)
		p.push(-1, tries, data(10))
		for range 200 {
			p.takes(5, 10, 1)
			p.timeout(1)
			p.expire(greatest, 0)
		}
		p.states("L")
	}
}

// P15.4: one that is Waiting, Flying or Came is not given up by tries, however often it was sent.
func TestTriesOfOtherStates(t *testing.T) {
	p := start(t, 3)
	p.push(-1, 0, data(10))
	p.expire(1000, 0)
	for range 4 {
		p.takes(5, 10, 1)
		p.expire(1000, 0)
		p.states("F")
		p.timeout(1)
	}
	p.takes(5, 10, 1)
	p.acks(sendq.Result{Bytes: 10, Sample: -1}, 0, 9, block(1, 1))
	p.expire(1000, 0)
	p.states("C")
	p.acks(sendq.Result{Sample: -1}, 0, 9)
	p.expire(1000, 0)
	p.states("F")
	p.timeout(1)
	p.expire(0, 1)
	p.states("G")
}

// P15.4: one that is Lost as it was missed is given up by tries as well.
func TestTriesOfMissed(t *testing.T) {
	p := start(t, top)
	p.push(-1, 0, data(10))
	p.tens(3)
	p.takes(5, 40, 1, 2, 3, 4)
	p.ack(0, 9, block(2, 2))
	p.ack(0, 9, block(2, 3))
	p.expire(1000, 0)
	p.acks(sendq.Result{Bytes: 10, Sample: -1, Loss: true}, 0, 9, block(2, 4))
	p.expire(1000, 1)
	p.states("GCCC")
}

// P15.4: either is enough: until, and tries.
func TestUntilOrTries(t *testing.T) {
	for _, x := range []struct {
		until, tries, now int
		want              string
	}{
		{50, 0, 50, "G"}, {50, 1, 51, "G"}, {50, 0, 51, "G"}, {50, 1, 50, "L"}, {-1, 1, 51, "L"}, {50, -1, 50, "L"}, {-1, -1, 51, "L"}, {-1, 0, -1, "G"}, {-1, 0, 0, "G"},
	} {
		p := start(t, 3)
		p.push(x.until, x.tries, data(10))
		p.takes(5, 10, 1)
		p.timeout(1)
		p.expire(x.now, strings.Count(x.want, "G"))
		p.states(x.want)
	}
}

// ofThree has a message of three entries in these states, between two others that are not given up.
func ofThree(t *testing.T, until, tries int, states string) *pair {
	t.Helper()
	p := start(t, top-2)
	p.tens(1)
	p.push(until, tries, piece(1, 5, begin, 10), piece(1, 5, 0, 10), piece(1, 5, end, 10))
	p.tens(1)
	sent := strings.Trim("F"+states, "W")
	p.take(5, 10*len(sent))
	var came, flying []uint16
	for i, state := range []byte(states) {
		switch state {
		case 'C':
			came = append(came, uint16(i+2))
		case 'F':
			flying = append(flying, uint16(i+2))
		}
	}
	p.ack(0, 6, runs(slices.Concat(flying, came))...)
	p.timeout(len(sent) - len(came) - len(flying))
	p.ack(0, 6, runs(came)...)
	p.states("L" + states + "W")
	return p
}

// P15.4: all entries of the message are Given, those that Came, too; those of other messages are not.
func TestAllOfTheMessage(t *testing.T) {
	for _, states := range allStates(3) {
		if strings.Contains(states, "G") {
			continue
		}
		p := ofThree(t, 50, -1, states)
		p.expire(50, 0)
		p.states("L" + states + "W")
		if states == "CCC" {
			p.expire(51, 0)
			p.states("LCCCW")
			continue
		}
		p.expire(51, 1)
		p.states("LGGGW")
		p.expire(60, 0)
	}
}

// P15.4: by tries a message is given up if one entry is Lost and was sent too often, whatever the others are.
func TestTriesOfTheMessage(t *testing.T) {
	for _, states := range allStates(3) {
		if strings.Contains(states, "G") {
			continue
		}
		p := ofThree(t, -1, 0, states)
		if !strings.Contains(states, "L") {
			p.expire(51, 0)
			p.states("L" + states + "W")
			continue
		}
		p.expire(51, 1)
		p.states("LGGGW")
	}
	p := ofThree(t, -1, 1, "LLL")
	p.expire(51, 0)
	p.takes(7, 30, 1, 2, 3)
	p.timeout(3)
	p.expire(51, 1)
	p.states("LGGGW")
	p = ofThree(t, -1, 1, "LFL")
	p.takes(7, 40, 1, 2, 4, 5)
	p.timeout(5)
	p.takes(8, 20, 1, 2)
	p.takes(8, 10, 3)
	p.expire(51, 1)
	p.states("FGGGL")
}

// P15.4: one entry was sent too often and flies, another one is Lost and was not: that is not enough.
func TestTriesOfOneEntry(t *testing.T) {
	p := start(t, 0)
	p.push(-1, 1, piece(1, 5, begin, 10), piece(1, 5, end, 10))
	p.takes(5, 10, 1)
	p.timeout(1)
	p.takes(5, 20, 1, 2)
	p.acks(sendq.Result{Bytes: 10, Sample: -1}, 0, 6, block(1, 1))
	p.timeout(1)
	p.acks(sendq.Result{Sample: -1}, 0, 6)
	p.states("FL")
	p.expire(100, 0)
	p.timeout(1)
	p.expire(100, 1)
	p.states("GG")
}

// P15.4: of a message a part of which has gone away, what is left is given up.
func TestRestOfTheMessage(t *testing.T) {
	p := start(t, top)
	p.push(50, -1, piece(1, 5, begin, 10), piece(1, 5, 0, 10), piece(1, 5, end, 10))
	p.push(50, -1, piece(1, 6, begin, 10), piece(1, 6, end, 10))
	p.takes(5, 40, 1, 2, 3, 4)
	p.acks(sendq.Result{Bytes: 20, Sample: 1, Moved: true}, 2, 6)
	p.expire(50, 0)
	p.acks(sendq.Result{Bytes: 10, Sample: -1}, 0, 6, block(1, 1))
	p.states("CFW")
	p.expire(51, 1)
	p.states("CGG")
	p.forwards(3, hop(1, 6))
}

// P15.4: what has gone away is not counted, and nothing is, where all Came or are Given.
func TestNotCounted(t *testing.T) {
	p := start(t, top-1)
	for range 4 {
		p.push(50, 0, data(10))
	}
	p.takes(5, 40, 1, 2, 3, 4)
	p.acks(sendq.Result{Bytes: 30, Sample: 1, Moved: true}, 1, 6, block(1, 1), block(3, 3))
	p.states("CFC")
	p.expire(100, 1)
	p.states("CGC")
	p.expire(100, 0)
	p.acks(sendq.Result{Sample: -1}, 0, 6, block(1, 1))
	p.states("CGF")
	p.expire(100, 1)
	p.states("CGG")
	p.acks(sendq.Result{Sample: -1}, 0, 6)
	p.states("FGG")
	p.expire(100, 1)
	p.states("GGG")
}

// P15.4: how many messages, not how many entries; each of two alike by itself.
func TestHowManyMessages(t *testing.T) {
	for _, first := range firsts {
		p := start(t, first)
		p.push(10, -1, piece(1, 5, begin, 10), piece(1, 5, end, 10))
		p.push(10, -1, piece(1, 5, begin, 10), piece(1, 5, end, 10))
		p.push(-1, -1, data(10), data(10))
		p.push(20, -1, piece(2, 5, begin, 10), piece(2, 5, 0, 10), piece(2, 5, end, 10))
		p.push(10, -1, data(10))
		p.push(-1, 0, data(10))
		p.push(30, -1, data(10))
		p.expire(10, 0)
		p.takes(5, 30, 1, 2, 3)
		p.expire(11, 3)
		p.states("GGGGWWWWWGWW")
		p.expire(20, 0)
		p.expire(21, 1)
		p.states("GGGGWWGGGGWW")
		p.expire(30, 0)
		p.takes(6, 100, 5, 6, 11, 12)
		p.timeout(4)
		p.expire(30, 1)
		p.states("GGGGLLGGGGGL")
		p.expire(31, 1)
		p.expire(10, 0)
		p.states("GGGGLLGGGGGG")
	}
	p := start(t, top-100)
	for range 512 {
		p.push(7, -1, data(1), data(1))
	}
	p.expire(8, 512)
	p.expire(8, 0)
}

// P15.4: pieces that were pushed one by one are messages by themselves, chunks that were pushed together are one.
func TestMessagesApart(t *testing.T) {
	p := start(t, top)
	p.push(5, -1, piece(1, 5, begin, 10))
	p.push(6, -1, piece(1, 5, 0, 10))
	p.push(7, -1, piece(1, 5, end, 10))
	p.expire(6, 1)
	p.states("GWW")
	p.expire(7, 1)
	p.states("GGW")
	p.push(-1, -1, piece(3, 5, alone, 10), piece(4, 6, alone, 10))
	p.expire(8, 1)
	p.states("GGGWW")
}

// P15.4: what is Given flies no more, is not sent, is not missed, and takes part in no answer.
func TestGivenStays(t *testing.T) {
	p := start(t, top-1)
	p.push(5, 0, data(10))
	p.push(5, 0, data(20))
	p.tens(5)
	p.takes(1, 80, 1, 2, 3, 4, 5, 6, 7)
	p.acks(sendq.Result{Bytes: 20, Sample: -1}, 0, 9, block(2, 2))
	p.expire(6, 1)
	p.states("GCFFFFF")
	if p.queue.Flying() != 50 || p.queue.Left() != 0 {
		t.Errorf("Flying is %d, Left %d", p.queue.Flying(), p.queue.Left())
	}
	p.timeout(5)
	p.takes(2, 100, 3, 4, 5, 6, 7)
	for to := uint16(3); to < 8; to++ {
		p.ack(0, 9, block(1, to))
	}
	p.states("GCCCCCC")
	p.acks(sendq.Result{Sample: -1}, 0, 9)
	p.states("GFFFFFF")
	p.expire(6, 1)
	p.states("GGFFFFF")
	p.acks(sendq.Result{Bytes: 10, Sample: -1, Moved: true}, 3, 9)
}
