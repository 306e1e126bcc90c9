package dcep_test

import (
	"bytes"
	"testing"

	"bollard/api"
	"bollard/dcep"
)

// heard asks for what is told of a message, what is sent back, and the error.
func heard(t *testing.T, p *pair, m api.Message, want dcep.Event, back []byte, err api.Errno) {
	t.Helper()
	if v, b, got := p.hear(m); !sameEvents(v, want) || !bytes.Equal(b, back) || got != err {
		t.Errorf("Hear(%#v) is %#v, %v, %v, want %#v, %v, %v", m, v, b, got, want, back, err)
	}
}

// refusedHear asks for an error, nothing beside it, and that the stream's state stays.
func refusedHear(t *testing.T, p *pair, m api.Message, err api.Errno) {
	t.Helper()
	state := p.table.State(m.Stream)
	heard(t, p, m, dcep.Event{}, nil, err)
	p.is(m.Stream, state)
}

// P18.4: of the PPID 50 one octet 2, in each state.
func TestHearAnswer(t *testing.T) {
	eachWay(t, func(t *testing.T, w way, p *pair, stream uint16) {
		switch w.state {
		case free:
			refusedHear(t, p, answers(stream), api.ErrState)
		case asked:
			heard(t, p, answers(stream), dcep.Event{What: ready, Stream: stream, Opening: labelled("first")}, nil, api.OK)
			p.is(stream, open)
			refusedHear(t, p, answers(stream), api.OK)
		default:
			for range 2 {
				refusedHear(t, p, answers(stream), api.OK)
			}
		}
	})
}

// P18.4: an octet that is not 2, or is not alone, is no answer; one that comes of another PPID is none, either.
func TestHearNoAnswer(t *testing.T) {
	p := start(t, true, 4)
	request(p, 0)
	for v := range 256 {
		m := api.Message{Stream: 0, Ppid: 50, Data: []byte{byte(v)}}
		switch v {
		case 2:
		case 3:
			refusedHear(t, p, m, api.ErrShort)
		default:
			refusedHear(t, p, m, api.ErrForm)
		}
	}
	refusedHear(t, p, api.Message{Ppid: 50}, api.ErrShort)
	refusedHear(t, p, api.Message{Ppid: 50, Data: []byte{}}, api.ErrShort)
	refusedHear(t, p, api.Message{Ppid: 50, Data: []byte{2, 0}}, api.ErrForm)
	refusedHear(t, p, api.Message{Ppid: 50, Data: []byte{2, 2}}, api.ErrForm)
	heard(t, p, api.Message{Ppid: 53, Data: []byte{2}}, dcep.Event{What: came, Data: []byte{2}}, nil, api.OK)
	heard(t, p, api.Message{Ppid: 51, Data: []byte{2}}, dcep.Event{What: came, Text: true, Data: []byte{2}}, nil, api.OK)
	refusedHear(t, p, api.Message{Ppid: 52, Data: []byte{2}}, api.ErrForm)
	p.is(0, asked)
}

// P18.4: openings that are right, in each state: on a stream that is Free and one of the other side's it is open, and is answered.
func TestHearOpening(t *testing.T) {
	for _, o := range someOpenings() {
		eachWay(t, func(t *testing.T, w way, p *pair, stream uint16) {
			if w.state != free || w.own {
				refusedHear(t, p, opens(stream, o), api.ErrState)
				return
			}
			heard(t, p, opens(stream, o), dcep.Event{What: opened, Stream: stream, Opening: o}, []byte{2}, api.OK)
			p.is(stream, open)
			if got := p.table.Opening(stream); got != o {
				t.Errorf("Opening is %#v, want %#v", got, o)
			}
			refusedHear(t, p, opens(stream, o), api.ErrState)
		})
	}
}

// P18.4: openings that are wrong: Decode's error, ahead of what the stream is.
func TestHearWrongOpening(t *testing.T) {
	whole := laid(labelled("a"))
	for _, x := range []struct {
		b   []byte
		err api.Errno
	}{
		{nil, api.ErrShort}, {[]byte{3}, api.ErrShort}, {whole[:11], api.ErrShort}, {whole[:12], api.ErrShort}, {whole[:len(whole)-1], api.ErrShort},
		{[]byte{0}, api.ErrForm}, {append([]byte{4}, whole[1:]...), api.ErrForm}, {append([]byte{2}, whole[1:]...), api.ErrForm}, {append(whole[:len(whole):len(whole)], 0), api.ErrForm},
		{headed(257, 0, ""), api.ErrLarge}, {headed(0, 257, long(257)), api.ErrLarge},
		{laid(dcep.Opening{Kind: 3}), api.ErrArg}, {headed(1, 0, "\xff"), api.ErrArg}, {headed(0, 1, "\xff"), api.ErrArg},
	} {
		eachWay(t, func(t *testing.T, w way, p *pair, stream uint16) {
			refusedHear(t, p, api.Message{Stream: stream, Ppid: 50, Data: x.b}, x.err)
		})
	}
}

// P18.4: on each stream below the number of them an opening is heard if it is one of the other side's.
func TestHearOpeningEachStream(t *testing.T) {
	for _, streams := range []int{1, 2, 63, 64, 65} {
		for _, even := range []bool{true, false} {
			p := start(t, even, streams)
			for _, stream := range places() {
				switch {
				case int(stream) >= min(streams, 64):
					refusedHear(t, p, opens(stream, labelled("a")), api.ErrArg)
				case (stream%2 == 0) == even:
					refusedHear(t, p, opens(stream, labelled("a")), api.ErrState)
				default:
					heard(t, p, opens(stream, labelled("a")), dcep.Event{What: opened, Stream: stream, Opening: labelled("a")}, []byte{2}, api.OK)
				}
			}
		}
	}
}

// P18.4: of other PPIDs, in each state: with octets, without, and with what says that there are none.
func TestHearData(t *testing.T) {
	ppids := []uint32{255, 256 + 50, 256 + 51, 65536 + 53, 1 << 31, 1<<32 - 1}
	for ppid := range uint32(61) {
		if ppid != 50 {
			ppids = append(ppids, ppid)
		}
	}
	eachWay(t, func(t *testing.T, w way, p *pair, stream uint16) {
		for _, ppid := range ppids {
			for _, data := range []string{"", "\x00", "\x02", "hi", "\xff\xfe", string(laid(labelled("a")))} {
				m := api.Message{Stream: stream, Ppid: ppid, Data: []byte(data)}
				text, b, ok := unwrapped(ppid, m.Data)
				switch {
				case w.state == free:
					refusedHear(t, p, m, api.ErrClosed)
				case !ok:
					refusedHear(t, p, m, api.ErrForm)
				case w.state == closing:
					refusedHear(t, p, m, api.OK)
				default:
					heard(t, p, m, dcep.Event{What: came, Stream: stream, Text: text, Data: b}, nil, api.OK)
					p.is(stream, w.state)
				}
			}
		}
	})
}

// P18.4: what was unwrapped, told plainly.
func TestHearUnwrapped(t *testing.T) {
	p := start(t, false, 4)
	p.hear(opens(2, labelled("chat")))
	for _, x := range []struct {
		ppid uint32
		data string
		text bool
		want string
	}{{51, "hi", true, "hi"}, {53, "hi", false, "hi"}, {56, "\x00", true, ""}, {57, "\x00", false, ""}, {56, "", true, ""}, {57, "hi", false, ""}, {51, "\xff", true, "\xff"}, {53, "\x02", false, "\x02"}} {
		heard(t, p, api.Message{Stream: 2, Ppid: x.ppid, Data: []byte(x.data)}, dcep.Event{What: came, Stream: 2, Text: x.text, Data: []byte(x.want)}, nil, api.OK)
	}
}

// P18.4: a stream that is none, whatever comes on it.
func TestHearNoStream(t *testing.T) {
	for _, streams := range []int{1, 2, 6, 63, 64} {
		for _, even := range []bool{true, false} {
			p := start(t, even, streams)
			for range 32 {
				p.ask(labelled("a"))
			}
			for _, stream := range places() {
				if int(stream) < streams {
					continue
				}
				for _, m := range []api.Message{answers(stream), opens(stream, labelled("a")), {Stream: stream, Ppid: 50}, {Stream: stream}, says51(stream, "hi"), says51(stream, ""), {Stream: stream, Ppid: 57}} {
					refusedHear(t, p, m, api.ErrArg)
				}
			}
		}
	}
}

// R4: whether a message was in order is not looked at.
func TestHearUnordered(t *testing.T) {
	p := start(t, true, 4)
	request(p, 0)
	for _, m := range []api.Message{answers(0), opens(1, labelled("a")), says51(1, "hi"), says51(0, "hi"), answers(1)} {
		m.Unordered = true
		if _, _, err := p.hear(m); err != api.OK {
			t.Errorf("Hear(%#v) is %v", m, err)
		}
	}
	p.is(0, open)
	p.is(1, open)
}

// P18.4: an answer, an opening and what is said are told of their own stream alone.
func TestHearBesideOthers(t *testing.T) {
	p := start(t, true, 8)
	for _, label := range []string{"a", "b", "c"} {
		p.ask(labelled(label))
	}
	heard(t, p, answers(2), dcep.Event{What: ready, Stream: 2, Opening: labelled("b")}, nil, api.OK)
	p.is(0, asked)
	p.is(2, open)
	p.is(4, asked)
	heard(t, p, opens(5, labelled("b")), dcep.Event{What: opened, Stream: 5, Opening: labelled("b")}, []byte{2}, api.OK)
	p.is(3, free)
	p.is(5, open)
	p.is(7, free)
	heard(t, p, says51(5, "hi"), dcep.Event{What: came, Stream: 5, Text: true, Data: []byte("hi")}, nil, api.OK)
	refusedHear(t, p, says51(3, "hi"), api.ErrClosed)
	heard(t, p, says51(0, "hi"), dcep.Event{What: came, Stream: 0, Text: true, Data: []byte("hi")}, nil, api.OK)
}
