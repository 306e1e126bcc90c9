package sendq_test

import (
	"slices"
	"strings"
	"testing"

	"bollard/api"
	"bollard/sendq"
)

// P15.5: nothing to go past: no entry, or one at the first place that is still to come.
func TestNothingToSkip(t *testing.T) {
	for _, first := range firsts {
		for _, states := range []string{"", "W", "F", "L", "WG", "FG", "LG", "FGGG", "LCG", "WGGWG"} {
			p := laid(t, first, states)
			p.noForward()
			p.noForward()
		}
	}
}

// P15.5: entries that Came alone are not gone past.
func TestCameAlone(t *testing.T) {
	for _, first := range firsts {
		for _, states := range []string{"C", "CC", "CF", "CCL", "CCW", "CFG", "CCCLG", "CWG"} {
			laid(t, first, states).noForward()
		}
	}
}

// P15.5: up to the last Given one ahead of the first one that is still to come. (laid's entries are each of a stream of its own, from 0 on, with numbers from 100 on.)
func TestUpToTheLastGiven(t *testing.T) {
	for _, first := range firsts {
		for _, x := range []struct {
			states string
			up     uint32
			given  []uint16
		}{
			{"G", 1, []uint16{0}},
			{"GG", 2, []uint16{0, 1}},
			{"GC", 1, []uint16{0}},
			{"CG", 2, []uint16{1}},
			{"CCG", 3, []uint16{2}},
			{"CGCG", 4, []uint16{1, 3}},
			{"CGCCF", 2, []uint16{1}},
			{"GCGCCL", 3, []uint16{0, 2}},
			{"GFG", 1, []uint16{0}},
			{"GLG", 1, []uint16{0}},
			{"GWG", 1, []uint16{0}},
			{"GGWGG", 2, []uint16{0, 1}},
			{"CGFGCG", 2, []uint16{1}},
			{"GCFCG", 1, []uint16{0}},
		} {
			var want []api.Skip
			for _, i := range x.given {
				want = append(want, hop(i, 100+i))
			}
			p := laid(t, first, x.states)
			p.forwards(x.up, want...)
			p.forwards(x.up, want...)
			p.states(x.states)
		}
	}
}

// given is a pair whose entries, pushed one by one, are all Given.
func given(t *testing.T, first uint32, l ...api.Chunk) *pair {
	t.Helper()
	p := start(t, first)
	for _, c := range l {
		p.push(0, -1, c)
	}
	p.expire(1, len(l))
	return p
}

// P15.5: streams stand in the order in which they are first met, each with the number of its last entry.
func TestStreams(t *testing.T) {
	for _, x := range []struct {
		name string
		l    []api.Chunk
		want []api.Skip
	}{
		{"one", []api.Chunk{piece(3, 7, alone, 1)}, []api.Skip{hop(3, 7)}},
		{"one stream and several messages", []api.Chunk{piece(3, 7, alone, 1), piece(3, 8, alone, 1), piece(3, 9, alone, 1)}, []api.Skip{hop(3, 9)}},
		{"several streams", []api.Chunk{piece(3, 7, alone, 1), piece(1, 8, alone, 1), piece(2, 9, alone, 1)}, []api.Skip{hop(3, 7), hop(1, 8), hop(2, 9)}},
		{"streams in turn", []api.Chunk{piece(3, 7, alone, 1), piece(1, 5, alone, 1), piece(3, 8, alone, 1), piece(0, 4, alone, 1), piece(1, 6, alone, 1)}, []api.Skip{hop(3, 8), hop(1, 6), hop(0, 4)}},
		{"numbers that go round", []api.Chunk{piece(3, 65535, alone, 1), piece(3, 0, alone, 1)}, []api.Skip{hop(3, 0)}},
		{"the last one, not the greatest one", []api.Chunk{piece(3, 9, alone, 1), piece(3, 2, alone, 1)}, []api.Skip{hop(3, 2)}},
		{"the greatest stream and number", []api.Chunk{piece(65535, 65535, alone, 1), piece(0, 0, alone, 1)}, []api.Skip{hop(65535, 65535), hop(0, 0)}},
		{"without order", []api.Chunk{piece(3, 7, alone|loose, 1)}, nil},
		{"all without order", []api.Chunk{piece(3, 7, alone|loose, 1), piece(4, 0, loose, 1), piece(5, 0, begin|loose, 1)}, nil},
		{"some without order", []api.Chunk{piece(3, 7, alone|loose, 1), piece(1, 5, alone, 1), piece(3, 8, alone, 1), piece(1, 9, alone|loose, 1)}, []api.Skip{hop(1, 5), hop(3, 8)}},
		{"other flags", []api.Chunk{piece(3, 7, 255, 1), piece(1, 5, 251, 1), piece(2, 6, 0, 1), piece(4, 6, 8|loose, 1)}, []api.Skip{hop(1, 5), hop(2, 6)}},
	} {
		for _, first := range firsts {
			p := given(t, first, x.l...)
			p.forwards(uint32(len(x.l)), x.want...)
			p.forwards(uint32(len(x.l)), x.want...)
		}
	}
}

// P15.5: pieces of one message, those that Came, too, are skipped as one number.
func TestPieces(t *testing.T) {
	p := start(t, top-2)
	p.push(5, -1, piece(3, 7, begin, 10), piece(3, 7, 0, 10), piece(3, 7, end, 10))
	p.push(5, -1, piece(3, 8, begin, 10), piece(3, 8, end, 10))
	p.push(5, -1, piece(2, 0, begin|loose, 10), piece(2, 0, end|loose, 10))
	p.takes(1, 40, 1, 2, 3, 4)
	p.ack(0, 2, block(1, 2))
	p.states("CCFFWWW")
	p.noForward()
	p.expire(6, 3)
	p.states("GGGGGGG")
	p.forwards(7, hop(3, 8))
}

// P15.5: of a stream whose other entries Came, or stand behind, only what is Given ahead counts.
func TestOnlyWhatIsGiven(t *testing.T) {
	p := start(t, top)
	p.push(-1, -1, piece(1, 10, alone, 10))
	p.push(5, -1, piece(2, 20, alone, 10))
	p.push(-1, -1, piece(2, 21, alone, 10))
	p.push(5, -1, piece(3, 30, alone, 10))
	p.push(-1, -1, piece(3, 31, alone, 10))
	p.push(-1, -1, piece(4, 40, alone, 10))
	p.push(5, -1, piece(2, 22, alone, 10))
	p.takes(1, 60, 1, 2, 3, 4, 5, 6)
	p.ack(0, 2, block(1, 1), block(3, 3), block(5, 5))
	p.expire(6, 3)
	p.states("CGCGCFG")
	p.forwards(4, hop(2, 20), hop(3, 30))
	p.ack(0, 2, block(1, 1), block(3, 3), block(5, 6))
	p.states("CGCGCCG")
	p.forwards(7, hop(2, 22), hop(3, 30))
	p.ack(0, 2, block(1, 1), block(5, 6))
	p.states("CGFGCCG")
	p.forwards(2, hop(2, 20))
	p.ack(0, 2)
	p.noForward()
}

// P15.5: a stream is met where the first entry of it that is to be skipped stands, whatever of it Came, or has no order, ahead of that.
func TestFirstMet(t *testing.T) {
	p := start(t, top)
	p.push(-1, -1, piece(1, 10, alone, 10))
	p.push(5, -1, piece(3, 0, alone|loose, 10))
	p.push(5, -1, piece(2, 20, alone, 10))
	p.push(5, -1, piece(3, 30, alone, 10))
	p.push(5, -1, piece(1, 11, alone, 10))
	p.takes(1, 10, 1)
	p.ack(0, 2, block(1, 1))
	p.expire(6, 4)
	p.states("CGGGG")
	p.forwards(5, hop(2, 20), hop(3, 30), hop(1, 11))
}

// P15.5: when the other side has skipped, what is Given goes away; what it does not know of yet stays to be skipped.
func TestBehindForward(t *testing.T) {
	for _, first := range firsts {
		p := given(t, first, piece(1, 5, alone, 1), piece(1, 6, alone, 1), piece(2, 5, alone, 1))
		p.tens(1)
		p.acks(sendq.Result{Sample: -1, Moved: true}, 1, 9)
		p.forwards(2, hop(1, 6), hop(2, 5))
		p.acks(sendq.Result{Sample: -1, Moved: true}, 2, 9)
		p.noForward()
		p.states("W")
	}
}

// P15.5: of a queue that is full, with a stream an entry.
func TestForwardOfMany(t *testing.T) {
	p := start(t, top-500)
	var l []api.Chunk
	var want []api.Skip
	for i := range uint16(1024) {
		l = append(l, piece(3000-i, i, alone, 1))
		want = append(want, hop(3000-i, i))
	}
	p.push(5, -1, l...)
	p.noForward()
	p.expire(6, 1)
	p.forwards(1024, want...)
	p.acks(sendq.Result{Sample: -1, Moved: true}, 24, 9)
	p.forwards(1000, want[24:]...)
}

// P15.5: all rows of up to five states.
func TestForwardOfAllStates(t *testing.T) {
	for count := range 6 {
		for _, states := range allStates(count) {
			p := laid(t, top-2, states)
			open := strings.IndexAny(states+"W", "WFL")
			if up := strings.LastIndex(states[:open], "G") + 1; up > 0 {
				var want []api.Skip
				for i := range up {
					if states[i] == 'G' {
						want = append(want, hop(uint16(i), uint16(100+i)))
					}
				}
				p.forwards(uint32(up), want...)
			} else {
				p.noForward()
			}
		}
	}
}

// R3: what Forward told is new memory: turning it, and laying something behind it, changes nothing that is told later.
func TestForwardIsNewMemory(t *testing.T) {
	p := given(t, 5, piece(1, 5, alone, 1), piece(2, 6, alone, 1), piece(3, 7, alone, 1))
	_, first, _ := p.queue.Forward()
	_, second, _ := p.queue.Forward()
	behind := append(first, hop(9, 9), hop(8, 8))
	for i := range behind {
		behind[i] = hop(77, 78)
	}
	for i := range first {
		first[i] = hop(75, 76)
	}
	want := []api.Skip{hop(1, 5), hop(2, 6), hop(3, 7)}
	if !slices.Equal(second, want) {
		t.Errorf("the second answer has turned with the first one: %v", second)
	}
	p.forwards(3, want...)
}
