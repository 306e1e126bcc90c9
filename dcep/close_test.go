package dcep_test

import (
	"strings"
	"testing"

	"bollard/api"
	"bollard/dcep"
)

// P18.5: Close in each state.
func TestClose(t *testing.T) {
	eachWay(t, func(t *testing.T, w way, p *pair, stream uint16) {
		want := api.ErrClosed
		if w.state == asked || w.state == open {
			want = api.OK
			defer p.is(stream, closing)
		} else {
			defer p.is(stream, w.state)
		}
		if err := p.close(stream); err != want {
			t.Errorf("Close is %v, want %v", err, want)
		}
		if err := p.close(stream); err != api.ErrClosed {
			t.Errorf("Close again is %v", err)
		}
	})
}

// P18.5: Gone in each state; that it was told is remembered, so that this side's restart alone is left.
func TestGone(t *testing.T) {
	eachWay(t, func(t *testing.T, w way, p *pair, stream uint16) {
		if told, want := p.gone(stream), w.state == asked || w.state == open; told != want {
			t.Errorf("Gone is %v, want %v", told, want)
		}
		switch {
		case w.state == free || strings.Contains(w.name, "freed"):
			p.is(stream, free)
		default:
			p.is(stream, closing)
		}
		if p.gone(stream) {
			t.Errorf("Gone again is true")
		}
		p.freed(stream)
		p.is(stream, free)
	})
}

// P18.5: Freed in each state; but for Closing it is not remembered.
func TestFreed(t *testing.T) {
	eachWay(t, func(t *testing.T, w way, p *pair, stream uint16) {
		p.freed(stream)
		switch {
		case w.state != closing:
			p.is(stream, w.state)
			if w.state == free {
				return
			}
			p.close(stream)
			p.gone(stream)
			p.is(stream, closing)
		case strings.Contains(w.name, "gone"):
			p.is(stream, free)
		default:
			p.is(stream, closing)
			p.freed(stream)
			p.is(stream, closing)
			p.gone(stream)
			p.is(stream, free)
		}
	})
}

// P18.5: each row of up to five calls on one stream, from Asked and from Open: it is Free as soon as both restarts are remembered, in both orders.
func TestRowsOfCalls(t *testing.T) {
	calls := []func(p *pair){
		func(p *pair) { p.close(0) },
		func(p *pair) { p.gone(0) },
		func(p *pair) { p.freed(0) },
		func(p *pair) { p.hear(answers(0)) },
		func(p *pair) { p.ask(labelled("again")) },
	}
	rows := 1
	for range 5 {
		rows *= len(calls)
	}
	for _, answered := range []bool{true, false} {
		for row := range rows {
			p := start(t, true, 1)
			p.ask(labelled("first"))
			if answered {
				p.hear(answers(0))
			}
			for range 5 {
				calls[row%len(calls)](p)
				row /= len(calls)
			}
		}
	}
}

// P18.5: streams that are none, and those beside.
func TestCloseNoStream(t *testing.T) {
	for _, streams := range []int{1, 2, 6, 63, 64} {
		p := start(t, true, streams)
		for range 32 {
			p.ask(labelled("a"))
		}
		for stream := uint16(1); int(stream) < streams; stream += 2 {
			p.hear(opens(stream, labelled("b")))
		}
		for _, stream := range places() {
			if int(stream) < streams {
				continue
			}
			if err := p.close(stream); err != api.ErrClosed {
				t.Errorf("Close(%d) is %v", stream, err)
			}
			if p.gone(stream) {
				t.Errorf("Gone(%d) is true", stream)
			}
			p.freed(stream)
			p.is(stream, free)
		}
		for stream := range uint16(streams) {
			want := asked
			if stream%2 == 1 {
				want = open
			}
			p.is(stream, want)
		}
	}
}

// P18.5: a call on one stream changes no other one.
func TestCloseBesideOthers(t *testing.T) {
	p := start(t, false, 8)
	for range 4 {
		p.ask(labelled("a"))
	}
	p.close(3)
	p.gone(5)
	p.freed(7)
	for stream, state := range map[uint16]int{0: free, 1: asked, 2: free, 3: closing, 4: free, 5: closing, 6: free, 7: asked} {
		p.is(stream, state)
	}
	p.freed(5)
	p.is(3, closing)
	p.is(5, free)
	p.gone(3)
	p.is(3, closing)
}

// P18.5: State and Opening in each state: of Free the zero value, else what the channel was opened with.
func TestStateAndOpening(t *testing.T) {
	eachWay(t, func(t *testing.T, w way, p *pair, stream uint16) {
		want := labelled("first")
		if w.state == free {
			want = dcep.Opening{}
		}
		if got := p.table.Opening(stream); got != want {
			t.Errorf("Opening is %#v, want %#v", got, want)
		}
		p.is(stream, w.state)
		for _, other := range places() {
			if other != stream && (p.table.State(other) != free || p.table.Opening(other) != dcep.Opening{}) {
				t.Errorf("of the stream %d: %d, %#v", other, p.table.State(other), p.table.Opening(other))
			}
		}
	})
}

// P18.5: Find in each state: a channel that is Asked or Open.
func TestFind(t *testing.T) {
	eachWay(t, func(t *testing.T, w way, p *pair, stream uint16) {
		got, there := p.table.Find("first")
		if want := w.state == asked || w.state == open; there != want || there && got != stream || !there && got != 0 {
			t.Errorf("Find is %d, %v", got, there)
		}
		for _, label := range []string{"", "firs", "first ", "First", "of first", "\xff"} {
			if got, there := p.table.Find(label); there || got != 0 {
				t.Errorf("Find(%q) is %d, %v", label, got, there)
			}
		}
	})
}

// finds asks for the stream of a label; -1: there is none.
func (p *pair) finds(label string, want int) {
	p.t.Helper()
	got, there := p.table.Find(label)
	if there != (want >= 0) || int(got) != max(want, 0) {
		p.t.Errorf("Find(%q) is %d, %v, want %d", label, got, there, want)
	}
}

// P18.5: of some with the same label the lowest one that is Asked or Open, whoever opened it, whichever was first.
func TestFindLowest(t *testing.T) {
	p := start(t, false, 8)
	p.finds("a", -1)
	p.hear(opens(6, labelled("a")))
	p.finds("a", 6)
	p.ask(labelled("b"))
	p.ask(labelled("a"))
	p.finds("a", 3)
	p.hear(opens(2, labelled("a")))
	p.finds("a", 2)
	p.finds("b", 1)
	p.hear(opens(0, labelled("")))
	p.finds("", 0)
	p.close(2)
	p.finds("a", 3)
	p.gone(3)
	p.finds("a", 6)
	p.close(6)
	p.finds("a", -1)
	p.freed(3)
	p.finds("a", -1)
	p.ask(labelled("a"))
	p.finds("a", 3)
	p.close(0)
	p.finds("", -1)
	p.finds("b", 1)
}

// P18.5: labels are the same octet by octet; the empty one and the longest one are labels, too.
func TestFindLabels(t *testing.T) {
	p := start(t, true, 64)
	labels := []string{"", "a", "A", "\u00e9", "e\u0301", "a\x00", "\x00", long(255), long(256), "ab", "ba"}
	for _, label := range labels {
		p.finds(label, -1)
		p.ask(dcep.Opening{Label: label, Protocol: "a"})
	}
	for i, label := range labels {
		p.finds(label, 2*i)
	}
	p.finds(long(257), -1)
	p.finds("\xff", -1)
}
