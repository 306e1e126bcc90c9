package sendq_test

import (
	"math/rand"
	"slices"
	"strings"
	"testing"

	"bollard/api"
	"bollard/sendq"
)

// blockRows are blocks, and what comes of eight entries that fly.
var blockRows = []struct {
	name   string
	blocks []api.Block
	want   string
}{
	{"none", nil, "FFFFFFFF"},
	{"the first one", []api.Block{block(1, 1)}, "CFFFFFFF"},
	{"one", []api.Block{block(3, 3)}, "FFCFFFFF"},
	{"a run", []api.Block{block(3, 5)}, "FFCCCFFF"},
	{"the last one", []api.Block{block(8, 8)}, "FFFFFFFC"},
	{"all", []api.Block{block(1, 8)}, "CCCCCCCC"},
	{"several", []api.Block{block(2, 3), block(5, 5), block(7, 8)}, "FCCFCFCC"},
	{"several, falling", []api.Block{block(7, 8), block(5, 5), block(2, 3)}, "FCCFCFCC"},
	{"next to each other", []api.Block{block(2, 3), block(4, 5)}, "FCCCCFFF"},
	{"overlapping", []api.Block{block(2, 5), block(4, 7)}, "FCCCCCCF"},
	{"one within another", []api.Block{block(2, 7), block(4, 5)}, "FCCCCCCF"},
	{"one within another, ahead of it", []api.Block{block(4, 5), block(2, 7)}, "FCCCCCCF"},
	{"two that begin alike", []api.Block{block(2, 3), block(2, 6)}, "FCCCCCFF"},
	{"two that begin alike, the long one first", []api.Block{block(2, 6), block(2, 3)}, "FCCCCCFF"},
	{"twice the same", []api.Block{block(2, 3), block(2, 3)}, "FCCFFFFF"},
	{"From above To", []api.Block{block(5, 3)}, "FFFFFFFF"},
	{"From one above To", []api.Block{block(4, 3)}, "FFFFFFFF"},
	{"From above To beside another one", []api.Block{block(6, 2), block(4, 4)}, "FFFCFFFF"},
	{"From above To within another one", []api.Block{block(2, 6), block(5, 3)}, "FCCCCCFF"},
	{"From 0 To 0", []api.Block{block(0, 0)}, "FFFFFFFF"},
	{"From 0", []api.Block{block(0, 2)}, "CCFFFFFF"},
	{"from 0 to the end", []api.Block{block(0, 65535)}, "CCCCCCCC"},
	{"To 0", []api.Block{block(1, 0)}, "FFFFFFFF"},
	{"beyond all", []api.Block{block(9, 9), block(100, 65535)}, "FFFFFFFF"},
	{"far beyond all", []api.Block{block(1023, 1023), block(1024, 1024), block(1025, 1025), block(65535, 65535)}, "FFFFFFFF"},
	{"reaching beyond all", []api.Block{block(7, 65535)}, "FFFFFFCC"},
	{"the greatest To below", []api.Block{block(65535, 2)}, "FFFFFFFF"},
}

// P15.3: by their heights entries that fly become Came, and their Data counts.
func TestBlocks(t *testing.T) {
	for _, first := range firsts {
		for _, x := range blockRows {
			p := laid(t, first, "FFFFFFFF")
			count := strings.Count(x.want, "C")
			p.acks(sendq.Result{Bytes: 10 * count, Sample: -1}, 0, 107, x.blocks...)
			p.states(x.want)
			p.acks(sendq.Result{Sample: -1}, 0, 107, x.blocks...)
			p.states(x.want)
			if p.queue.Flying() != 80-10*count {
				t.Errorf("%s: Flying is %d", x.name, p.queue.Flying())
			}
		}
	}
}

// P15.3: heights are told from cum on, not from where the floor was.
func TestBlocksAboveCum(t *testing.T) {
	for _, first := range firsts {
		for _, x := range blockRows {
			p := laid(t, first, "LCF"+"FFFFFFFF")
			p.acks(sendq.Result{Bytes: 20 + 10*strings.Count(x.want, "C"), Sample: 7, Moved: true}, 3, 107, x.blocks...)
			p.states(x.want)
		}
	}
}

// P15.3: what a block makes of each state.
func TestBlocksOfStates(t *testing.T) {
	p := laid(t, top-2, "FLCGWGW")
	p.acks(sendq.Result{Bytes: 20, Sample: -1}, 0, 107, block(1, 65535))
	p.states("CCCGWGW")
	p = laid(t, top-2, "FLCGWGW")
	p.acks(sendq.Result{Bytes: 10, Sample: -1}, 0, 107, block(2, 2), block(5, 7))
	p.states("FCFGWGW")
	p = laid(t, top-2, "LLLW")
	p.acks(sendq.Result{Bytes: 10, Sample: -1}, 0, 107, block(2, 2), block(4, 4))
	p.states("LCLW")
	if p.queue.Left() != 30 || p.queue.Flying() != 0 {
		t.Errorf("Left is %d", p.queue.Left())
	}
}

// P15.3: a Waiting or a Given one in a block is none that became Came: nothing is missed by it.
func TestNothingMissedByOthers(t *testing.T) {
	p := laid(t, top-2, "FCGWG")
	for range 5 {
		p.acks(sendq.Result{Sample: -1}, 0, 107, block(2, 65535))
		p.states("FCGWG")
	}
}

// P15.3: one that Came and is in no block any more flies again; what it counts, it counts again.
func TestFlyingAgain(t *testing.T) {
	for _, first := range firsts {
		p := laid(t, first, "FFFF")
		p.acks(sendq.Result{Bytes: 20, Sample: -1}, 0, 107, block(2, 3))
		p.states("FCCF")
		p.acks(sendq.Result{Sample: -1}, 0, 107, block(3, 3))
		p.states("FFCF")
		p.acks(sendq.Result{Sample: -1}, 0, 107)
		p.states("FFFF")
		p.acks(sendq.Result{Bytes: 20, Sample: -1}, 0, 107, block(2, 3))
		p.states("FCCF")
		p.acks(sendq.Result{Bytes: 10, Sample: 7, Moved: true}, 1, 107)
		p.states("FFF")
		p.acks(sendq.Result{Bytes: 20, Sample: 7, Moved: true}, 2, 107)
		p.states("F")
	}
	p := laid(t, 5, "LCF")
	p.timeout(1)
	p.acks(sendq.Result{Bytes: 10, Sample: -1}, 0, 107, block(3, 3))
	p.states("LFC")
	p.acks(sendq.Result{Sample: -1}, 0, 107)
	p.states("LFF")
}

// P15.3: one that flies again was sent as often as it was, and when it was.
func TestFlyingAgainIsNotSent(t *testing.T) {
	p := start(t, 0)
	p.push(-1, 1, data(10))
	p.takes(100, 10, 1)
	p.ack(0, 110, block(1, 1))
	p.ack(0, 120)
	p.timeout(1)
	p.expire(0, 0)
	p.acks(sendq.Result{Bytes: 10, Sample: 30, Moved: true}, 1, 130)
}

// P15.3: missed once, twice, and three times: then it is Lost.
func TestMissed(t *testing.T) {
	for _, first := range firsts {
		p := laid(t, first, "FFFFFF")
		p.acks(sendq.Result{Bytes: 10, Sample: -1}, 0, 107, block(2, 2))
		p.acks(sendq.Result{Bytes: 10, Sample: -1}, 0, 107, block(2, 3))
		p.states("FCCFFF")
		p.acks(sendq.Result{Bytes: 10, Sample: -1, Loss: true}, 0, 107, block(2, 4))
		p.states("LCCCFF")
		if p.queue.Left() != 10 || p.queue.Flying() != 20 {
			t.Errorf("Left is %d, Flying %d", p.queue.Left(), p.queue.Flying())
		}
		p.acks(sendq.Result{Bytes: 10, Sample: -1}, 0, 107, block(2, 5))
		p.acks(sendq.Result{Bytes: 10, Sample: -1}, 0, 107, block(2, 6))
		p.states("LCCCCC")
		p.takes(200, 100, 1)
		p.acks(sendq.Result{Bytes: 10, Sample: -1, Moved: true}, 6, 210)
	}
}

// P15.3: several that are missed at one time.
func TestSeveralMissed(t *testing.T) {
	p := laid(t, top-1, "FFFFFFF")
	p.acks(sendq.Result{Bytes: 10, Sample: -1}, 0, 107, block(3, 3))
	p.acks(sendq.Result{Bytes: 10, Sample: -1}, 0, 107, block(3, 3), block(5, 5))
	p.states("FFCFCFF")
	p.acks(sendq.Result{Bytes: 10, Sample: -1, Loss: true}, 0, 107, block(3, 3), block(5, 6))
	p.states("LLCFCCF")
	p.acks(sendq.Result{Bytes: 10, Sample: -1, Loss: true}, 0, 107, block(3, 3), block(5, 7))
	p.states("LLCLCCC")
}

// P15.3: each answer misses once, however many come by it; by that of which they are below.
func TestMissedOncePerAnswer(t *testing.T) {
	p := laid(t, top-1, "FFFFFFFFF")
	p.acks(sendq.Result{Bytes: 40, Sample: -1}, 0, 107, block(2, 2), block(4, 4), block(6, 7))
	p.acks(sendq.Result{Bytes: 10, Sample: -1}, 0, 107, block(2, 2), block(4, 4), block(6, 8))
	p.states("FCFCFCCCF")
	p.acks(sendq.Result{Bytes: 10, Sample: -1, Loss: true}, 0, 107, block(2, 4), block(6, 8))
	p.states("LCCCFCCCF")
	p = laid(t, top-1, "FFFFFFFFF")
	p.acks(sendq.Result{Bytes: 10, Sample: -1}, 0, 107, block(9, 9))
	p.acks(sendq.Result{Bytes: 10, Sample: -1}, 0, 107, block(5, 5), block(9, 9))
	p.acks(sendq.Result{Bytes: 10, Sample: -1, Loss: true}, 0, 107, block(5, 5), block(7, 7), block(9, 9))
	p.states("LLLLCFCFC")
	p.acks(sendq.Result{Bytes: 10, Sample: -1, Loss: true}, 0, 107, block(5, 5), block(7, 9))
	p.states("LLLLCLCCC")
}

// P15.3: counted only of those below the greatest one that became Came in this very call, though others Came above it before.
func TestMissedBelowTheGreatestOfThisCall(t *testing.T) {
	p := laid(t, top-1, "FFFFFC")
	for _, to := range []uint16{1, 2, 3} {
		p.acks(sendq.Result{Bytes: 10, Sample: -1}, 0, 107, block(1, to), block(6, 6))
	}
	p.states("CCCFFC")
	p.acks(sendq.Result{Bytes: 10, Sample: -1}, 0, 107, block(1, 3), block(5, 6))
	p.acks(sendq.Result{Sample: -1}, 0, 107, block(1, 3), block(5, 6))
	p.acks(sendq.Result{Sample: -1}, 0, 107, block(1, 3), block(5, 6))
	p.states("CCCFCC")
}

// P15.3: where no entry became Came nothing is missed, though entries go away, or fly again.
func TestNothingMissed(t *testing.T) {
	p := laid(t, top-1, "FFFFFC")
	for range 4 {
		p.acks(sendq.Result{Sample: -1}, 0, 107, block(6, 6))
	}
	for range 3 {
		p.acks(sendq.Result{Bytes: 10, Sample: 7, Moved: true}, 1, 107, block(5, 6))
		p.acks(sendq.Result{Sample: -1}, 0, 107, block(5, 6))
		p.ack(0, 107, block(uint16(p.queue.Len()), uint16(p.queue.Len())))
	}
	p.states("FFC")
}

// P15.3: those that are Lost, Waiting or Given are not missed: nothing of them changes, and there is no Loss.
func TestNotMissedInOtherStates(t *testing.T) {
	p := laid(t, top-3, "LGLFFFFW")
	for to := uint16(4); to < 8; to++ {
		p.acks(sendq.Result{Bytes: 10, Sample: -1}, 0, 107, block(4, to))
	}
	p.states("LGLCCCCW")
	p.takes(200, 20, 1, 3)
	p.states("FGFCCCCW")
	p.takes(200, 10, 8)
	p.tens(2)
	p.takes(200, 20, 9, 10)
	p.acks(sendq.Result{Bytes: 10, Sample: -1}, 0, 107, block(4, 8))
	p.acks(sendq.Result{Bytes: 10, Sample: -1}, 0, 107, block(4, 9))
	p.states("FGFCCCCCCF")
	p.acks(sendq.Result{Bytes: 10, Sample: -1, Loss: true}, 0, 107, block(4, 10))
	p.states("LGLCCCCCCC")
}

// P15.3: one that was missed, Came and flies again begins anew; it is missed in the very call in which it flies again, if one above it became Came.
func TestFlyingAgainIsNotMissed(t *testing.T) {
	for _, first := range firsts {
		p := missed(t, first, 2)
		p.acks(sendq.Result{Bytes: 10, Sample: -1}, 0, 107, block(1, 3))
		p.acks(sendq.Result{Sample: -1}, 0, 107, block(2, 3))
		p.states("FCCFFFFFF")
		p.acks(sendq.Result{Bytes: 10, Sample: -1}, 0, 107, block(2, 4))
		p.acks(sendq.Result{Bytes: 10, Sample: -1}, 0, 107, block(2, 5))
		p.states("FCCCCFFFF")
		p.acks(sendq.Result{Bytes: 10, Sample: -1, Loss: true}, 0, 107, block(2, 6))
		p.states("LCCCCCFFF")

		p = missed(t, first, 2)
		p.acks(sendq.Result{Bytes: 10, Sample: -1}, 0, 107, block(1, 3))
		p.acks(sendq.Result{Bytes: 10, Sample: -1}, 0, 107, block(2, 4))
		p.acks(sendq.Result{Bytes: 10, Sample: -1}, 0, 107, block(2, 5))
		p.states("FCCCCFFFF")
		p.acks(sendq.Result{Bytes: 10, Sample: -1, Loss: true}, 0, 107, block(2, 6))
		p.states("LCCCCCFFF")
	}
}

// P15.3: one that was Lost by a timeout, Came and flies again is not missed either.
func TestLostAndFlyingAgain(t *testing.T) {
	p := missed(t, top-1, 2)
	p.timeout(7)
	p.acks(sendq.Result{Bytes: 10, Sample: -1}, 0, 107, block(1, 3))
	p.acks(sendq.Result{Sample: -1}, 0, 107, block(2, 3))
	p.states("FCCLLLLLL")
	p.acks(sendq.Result{Bytes: 10, Sample: -1}, 0, 107, block(2, 4))
	p.acks(sendq.Result{Bytes: 10, Sample: -1}, 0, 107, block(2, 5))
	p.states("FCCCCLLLL")
	p.acks(sendq.Result{Bytes: 10, Sample: -1, Loss: true}, 0, 107, block(2, 6))
}

// P15.3: how often one was missed is kept when those ahead of it go away.
func TestMissedIsKept(t *testing.T) {
	p := laid(t, top-1, "FFFFFFF")
	p.acks(sendq.Result{Bytes: 10, Sample: -1}, 0, 107, block(4, 4))
	p.acks(sendq.Result{Bytes: 20, Sample: 7, Moved: true}, 1, 107, block(3, 4))
	p.acks(sendq.Result{Bytes: 20, Sample: 7, Moved: true, Loss: true}, 1, 107, block(2, 4))
	p.states("LCCCF")
}

// P15.3: in one call entries go away, become Came, fly again and are Lost.
func TestAllStepsAtOnce(t *testing.T) {
	for _, first := range firsts {
		p := laid(t, first, "FLFFFCFFFFW")
		p.acks(sendq.Result{Bytes: 10, Sample: -1}, 0, 107, block(6, 7))
		p.acks(sendq.Result{Bytes: 10, Sample: -1}, 0, 107, block(6, 8))
		p.states("FLFFFCCCFFW")
		p.acks(sendq.Result{Bytes: 50, Sample: 9, Moved: true, Loss: true}, 3, 109, block(2, 2), block(4, 5), block(0, 0), block(7, 6), block(7, 7), block(8, 9))
		p.states("LCFCCFCW")
	}
}

// P15.3: blocks of a queue that is full: the heights that there are, and those beyond.
func TestBlocksOfMany(t *testing.T) {
	draw := rand.New(rand.NewSource(152))
	for range 40 {
		p := start(t, top-uint32(draw.Intn(1100)))
		p.push(-1, -1, many(1024)...)
		p.take(10, 1024-draw.Intn(2)*draw.Intn(1024))
		for range 6 {
			var blocks []api.Block
			for range draw.Intn(64) {
				from := uint16(draw.Intn(1100))
				blocks = append(blocks, block(from, from+uint16(draw.Intn(60))-3))
			}
			p.ack(0, 20, blocks...)
		}
		p.ack(uint32(draw.Intn(1025)), 20, block(uint16(draw.Intn(1025)), uint16(draw.Intn(1100))))
	}
	p := start(t, top-100)
	p.push(-1, -1, many(1024)...)
	p.take(10, 1024)
	p.acks(sendq.Result{Bytes: 1, Sample: -1}, 0, 20, block(1024, 1024), block(1025, 1025))
	p.acks(sendq.Result{Bytes: 1023, Sample: -1}, 0, 20, block(0, 65535))
	p.states(strings.Repeat("C", 1024))
	p.acks(sendq.Result{Sample: -1}, 0, 20, block(1, 1023))
	p.states(strings.Repeat("C", 1023) + "F")
	p.acks(sendq.Result{Bytes: 1, Sample: 10, Moved: true}, 1024, 20)
}

// P1: very many blocks, in a time that rises no faster than they do.
func TestVeryManyBlocks(t *testing.T) {
	q := sendq.New(top - 5)
	q.Push(many(1024), -1, -1)
	q.Take(0, 1024)
	blocks := slices.Repeat([]api.Block{block(0, 0), block(65535, 1), block(2000, 65535), block(1025, 1100), block(1024, 1)}, 1000000)
	blocks = append(blocks, block(0, 1022))
	if r, ok := q.Ack(top-6, blocks, 0); !ok || r != (sendq.Result{Bytes: 1022, Sample: -1}) || q.Flying() != 2 {
		t.Errorf("Ack is %v, %v", r, ok)
	}
	if r, ok := q.Ack(top-6, slices.Repeat([]api.Block{block(0, 65535)}, 1000000), 0); !ok || r.Bytes != 2 {
		t.Errorf("Ack is %v, %v", r, ok)
	}
}
