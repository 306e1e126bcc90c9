package dcep_test

import (
	"bytes"
	"math/rand"
	"testing"

	"bollard/api"
	"bollard/dcep"
)

// P18.6: there and back an opening is the same.
func TestThereAndBack(t *testing.T) {
	draw := rand.New(rand.NewSource(183))
	for range 20000 {
		o := drawnOpening(draw)
		if _, err := encoded(o); err == api.OK {
			checkBack(t, o)
		}
	}
}

// P18.6: two sides that ask in turns never open the same stream, and what was asked is told by the other side.
func TestTwoSidesInTurns(t *testing.T) {
	for _, streams := range []int{1, 2, 3, 16, 63, 64} {
		for _, first := range []bool{true, false} {
			sides := [2]*pair{start(t, first, streams), start(t, !first, streams)}
			taken := map[uint16]bool{}
			for turn := range 70 {
				here, there := sides[turn%2], sides[1-turn%2]
				o := labelled(long(turn))
				stream, b, err := here.ask(o)
				if err == api.ErrFull {
					continue
				}
				if taken[stream] || err != api.OK {
					t.Fatalf("the stream %d was asked for again (%v)", stream, err)
				}
				taken[stream] = true
				heard(t, there, api.Message{Stream: stream, Ppid: 50, Data: b}, dcep.Event{What: opened, Stream: stream, Opening: o}, []byte{2}, api.OK)
				heard(t, here, answers(stream), dcep.Event{What: ready, Stream: stream, Opening: o}, nil, api.OK)
			}
			if len(taken) != streams {
				t.Errorf("of %d streams %d were opened", streams, len(taken))
			}
		}
	}
}

// P18.6: both ask for all before either hears of it: no stream is asked for by both.
func TestTwoSidesAtOnce(t *testing.T) {
	sides := [2]*pair{start(t, true, 64), start(t, false, 64)}
	var asked [2][]api.Message
	taken := map[uint16]bool{}
	for range 32 {
		for i, p := range sides {
			stream, b, err := p.ask(labelled("chat"))
			if err != api.OK || taken[stream] {
				t.Fatalf("Ask is %d, %v", stream, err)
			}
			taken[stream] = true
			asked[i] = append(asked[i], api.Message{Stream: stream, Ppid: 50, Data: b})
		}
	}
	for i, p := range sides {
		for _, m := range asked[1-i] {
			heard(t, p, m, dcep.Event{What: opened, Stream: m.Stream, Opening: labelled("chat")}, []byte{2}, api.OK)
			heard(t, sides[1-i], answers(m.Stream), dcep.Event{What: ready, Stream: m.Stream, Opening: labelled("chat")}, nil, api.OK)
		}
	}
	for stream := range uint16(64) {
		sides[0].is(stream, open)
		sides[1].is(stream, open)
	}
}

// Two sides of the same parity would: there the other one's opening is refused.
func TestTwoSidesOfOneParity(t *testing.T) {
	for _, even := range []bool{true, false} {
		here, there := start(t, even, 8), start(t, even, 8)
		stream, b, _ := here.ask(labelled("chat"))
		refusedHear(t, there, api.Message{Stream: stream, Ppid: 50, Data: b}, api.ErrState)
	}
}

// The chapter's example, and one there and back, from the opening to a stream that is free again.
func TestExamples(t *testing.T) {
	x, y := start(t, true, 4), start(t, false, 4)
	stream, b, err := x.ask(dcep.Opening{Label: "a"})
	if stream != 0 || !bytes.Equal(b, []byte{3, 0, 0, 0, 0, 0, 0, 0, 0, 1, 0, 0, 97}) || err != api.OK {
		t.Errorf("Ask is %d, %v, %v", stream, b, err)
	}
	if ppid, b := dcep.Wrap(true, nil); ppid != 56 || !bytes.Equal(b, []byte{0}) {
		t.Errorf("Wrap is %d, %v", ppid, b)
	}
	heard(t, y, api.Message{Ppid: 50, Data: b}, dcep.Event{What: opened, Opening: dcep.Opening{Label: "a"}}, []byte{2}, api.OK)
	heard(t, x, says51(0, "ahead of the answer"), dcep.Event{What: came, Text: true, Data: []byte("ahead of the answer")}, nil, api.OK)
	heard(t, x, answers(0), dcep.Event{What: ready, Opening: dcep.Opening{Label: "a"}}, nil, api.OK)
	if err := x.close(0); err != api.OK {
		t.Errorf("Close is %v", err)
	}
	if !y.gone(0) {
		t.Errorf("Gone is false")
	}
	x.freed(0)
	if x.gone(0) {
		t.Errorf("Gone is true")
	}
	y.freed(0)
	x.is(0, free)
	y.is(0, free)
}

// P18.1 to P18.5: scripts of all calls on a few streams, against the chapter's words.
func TestScripts(t *testing.T) {
	draw := rand.New(rand.NewSource(184))
	told := map[int]int{}
	for range 400 {
		p := start(t, draw.Intn(2) == 0, 1+draw.Intn(6))
		for range 60 {
			step(p, draw, told)
		}
	}
	for what := nothing; what <= came; what++ {
		if told[what] == 0 {
			t.Errorf("%d was not told", what)
		}
	}
}

// step is one call of a script.
func step(p *pair, draw *rand.Rand, told map[int]int) {
	stream := uint16(draw.Intn(7))
	hear := func(m api.Message) {
		if v, _, err := p.hear(m); err == api.OK {
			told[v.What]++
		}
	}
	switch draw.Intn(9) {
	case 0, 1:
		p.ask(drawnOpening(draw))
	case 2:
		hear(opens(stream, drawnOpening(draw)))
	case 3:
		hear(answers(stream))
	case 4:
		hear(api.Message{Stream: stream, Ppid: uint32(50 + draw.Intn(8)), Data: make([]byte, draw.Intn(3))})
	case 5:
		hear(says51(stream, drawnText(draw)))
	case 6:
		p.close(stream)
	case 7:
		p.gone(stream)
	case 8:
		p.freed(stream)
	}
}

// line is what is under way from one side to the other, in order: messages, and restarts of streams.
type line struct {
	messages []api.Message
	restarts []bool
}

func (l *line) lay(m api.Message, restart bool) {
	l.messages, l.restarts = append(l.messages, m), append(l.restarts, restart)
}

// P18.6: two sides that ask, close and restart as they are drawn, with all that is under way in order: no opening is ever refused, and in the end all streams are Free again.
func TestTwoSidesDrawn(t *testing.T) {
	draw := rand.New(rand.NewSource(185))
	for range 100 {
		sides := [2]*pair{start(t, true, 6), start(t, false, 6)}
		var lines [2]line // from each side
		for range 200 {
			i := draw.Intn(2)
			switch draw.Intn(4) {
			case 0:
				if stream, b, err := sides[i].ask(labelled("a")); err == api.OK {
					lines[i].lay(api.Message{Stream: stream, Ppid: 50, Data: b}, false)
				}
			case 1:
				if stream := uint16(draw.Intn(6)); sides[i].close(stream) == api.OK {
					lines[i].lay(api.Message{Stream: stream}, true)
				}
			default:
				pass(t, sides, &lines, i)
			}
		}
		end(t, sides, &lines)
	}
}

// pass lets the first one of what is under way from a side come. A restart is done as soon as the other side has heard of it.
func pass(t *testing.T, sides [2]*pair, lines *[2]line, from int) {
	t.Helper()
	l, to := &lines[from], 1-from
	if len(l.messages) == 0 {
		return
	}
	m, restart := l.messages[0], l.restarts[0]
	l.messages, l.restarts = l.messages[1:], l.restarts[1:]
	if restart {
		if sides[to].gone(m.Stream) {
			lines[to].lay(api.Message{Stream: m.Stream}, true)
		}
		sides[from].freed(m.Stream)
		return
	}
	_, b, err := sides[to].hear(m)
	if err != api.OK {
		t.Fatalf("Hear(%#v) is %v", m, err)
	}
	if len(b) > 0 {
		lines[to].lay(api.Message{Stream: m.Stream, Ppid: 50, Data: b}, false)
	}
}

// end closes all, and lets all that is under way come.
func end(t *testing.T, sides [2]*pair, lines *[2]line) {
	t.Helper()
	for stream := range uint16(6) {
		for i, p := range sides {
			if p.close(stream) == api.OK {
				lines[i].lay(api.Message{Stream: stream}, true)
			}
		}
	}
	for len(lines[0].messages)+len(lines[1].messages) > 0 {
		pass(t, sides, lines, 0)
		pass(t, sides, lines, 1)
	}
	for stream := range uint16(6) {
		sides[0].is(stream, free)
		sides[1].is(stream, free)
	}
}
