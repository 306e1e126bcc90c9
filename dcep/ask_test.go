package dcep_test

import (
	"slices"
	"testing"

	"bollard/api"
	"bollard/dcep"
)

// counts are numbers of streams, and how many that is.
var counts = map[int]int{1: 1, 2: 2, 3: 3, 4: 4, 5: 5, 31: 31, 32: 32, 62: 62, 63: 63, 64: 64, 0: 64, -1: 64, -2: 64, -64: 64, 65: 64, 66: 64, 128: 64, 256: 64, 257: 64, 65535: 64, 65536: 64, 65537: 64, 1 << 32: 64, 1<<32 + 1: 64, least: 64, least + 1: 64, greatest: 64}

// P18.3: all streams below a number are Free, of a number that may not be 64; all others are none.
func TestNew(t *testing.T) {
	for streams, want := range counts {
		for _, even := range []bool{true, false} {
			p := start(t, even, streams)
			for _, stream := range places() {
				p.is(stream, free)
				err := api.ErrArg
				if int(stream) < want {
					err = api.ErrClosed
				}
				if _, _, got := p.hear(says51(stream, "hi")); got != err {
					t.Errorf("New(%v, %d): the stream %d: %v, want %v", even, streams, stream, got, err)
				}
			}
		}
	}
}

// P18.3: this side opens even streams or odd ones, the lowest first, until none is left.
func TestAsk(t *testing.T) {
	for streams, count := range counts {
		for _, even := range []bool{true, false} {
			p := start(t, even, streams)
			var got, want []uint16
			for i := range uint16(count) {
				if (i%2 == 0) == even {
					want = append(want, i)
				}
			}
			for range 40 {
				stream, b, err := p.ask(labelled("chat"))
				if err == api.OK {
					got = append(got, stream)
					p.is(stream, asked)
				} else if err != api.ErrFull || len(b) != 0 || stream != 0 {
					t.Errorf("New(%v, %d): Ask is %d, %v, %v", even, streams, stream, b, err)
				}
			}
			if !slices.Equal(got, want) {
				t.Errorf("New(%v, %d): there were asked %v, want %v", even, streams, got, want)
			}
		}
	}
}

// P18.3: with the opening that was asked for, whose octets are told.
func TestAskOpenings(t *testing.T) {
	for _, even := range []bool{true, false} {
		p := start(t, even, 64)
		asked := map[uint16]dcep.Opening{}
		for _, o := range someOpenings() {
			stream, b, err := p.ask(o)
			if back, fault := dcep.Decode(b); err != api.OK || fault != api.OK || back != o {
				t.Errorf("Ask(%#v) is %v, %v", o, b, err)
			}
			asked[stream] = o
		}
		for stream, o := range asked {
			if got := p.table.Opening(stream); got != o {
				t.Errorf("Opening(%d) is %#v, want %#v", stream, got, o)
			}
		}
	}
}

// P18.3: the same label may be asked for again.
func TestAskAgain(t *testing.T) {
	p := start(t, true, 6)
	for _, want := range []uint16{0, 2, 4} {
		if stream, _, err := p.ask(labelled("chat")); stream != want || err != api.OK {
			t.Errorf("Ask is %d, %v, want %d", stream, err, want)
		}
	}
}

// refusals are openings that Encode refuses.
func refusals() map[api.Errno][]dcep.Opening {
	return map[api.Errno][]dcep.Opening{
		api.ErrArg:   {{Kind: 3}, {Kind: 255, Label: "a"}, {Label: "\xff"}, {Protocol: "\xed\xa0\x80"}, {Kind: 9, Label: long(257)}, {Label: "\xff", Protocol: long(257)}},
		api.ErrLarge: {{Label: long(257)}, {Protocol: long(257)}, {Label: long(65536)}},
	}
}

// P18.3: what Encode refuses is not asked for: the stream stays Free, also where none is left.
func TestAskRefused(t *testing.T) {
	for _, even := range []bool{true, false} {
		for err, l := range refusals() {
			for _, o := range l {
				p := start(t, even, 4)
				for range 3 {
					if stream, b, got := p.ask(o); got != err || stream != 0 || len(b) != 0 {
						t.Errorf("Ask(%#v) is %d, %v, %v, want %v", o, stream, b, got, err)
					}
					p.ask(labelled("a"))
				}
				if _, _, got := p.ask(labelled("a")); got != api.ErrFull {
					t.Errorf("Ask is %v", got)
				}
			}
		}
	}
}

// P18.3: the lowest stream that is Free is asked for, whichever became so first; in no other state it is.
func TestAskBehindFree(t *testing.T) {
	p := start(t, false, 8)
	for range 4 {
		p.ask(labelled("a"))
	}
	full := func() {
		t.Helper()
		if _, _, err := p.ask(labelled("b")); err != api.ErrFull {
			t.Fatalf("Ask is %v", err)
		}
	}
	again := func(want uint16) {
		t.Helper()
		if stream, _, err := p.ask(labelled("b")); stream != want || err != api.OK {
			t.Fatalf("Ask is %d, %v, want %d", stream, err, want)
		}
	}
	full()
	p.hear(answers(5))
	full()
	p.close(5)
	full()
	p.freed(5)
	full()
	p.gone(5)
	again(5)
	full()
	p.gone(7)
	full()
	p.gone(3)
	p.freed(7)
	p.freed(3)
	again(3)
	again(7)
	full()
	p.close(1)
	p.gone(1)
	full()
	p.freed(1)
	again(1)
	full()
}

// P18.5: a stream that is free again knows nothing of before: neither its opening nor a restart.
func TestAnewOnFree(t *testing.T) {
	eachWay(t, func(t *testing.T, w way, p *pair, stream uint16) {
		if w.state != free {
			return
		}
		if w.own {
			p.ask(labelled("second"))
			p.hear(answers(stream))
		} else {
			p.hear(opens(stream, labelled("second")))
		}
		if got := p.table.Opening(stream); got != labelled("second") {
			t.Errorf("Opening is %#v", got)
		}
		p.is(stream, open)
		p.close(stream)
		p.freed(stream)
		p.is(stream, closing)
		p.gone(stream)
		p.is(stream, free)
		bring(p, stream, w.own)
		p.gone(stream)
		p.is(stream, closing)
		p.freed(stream)
		p.is(stream, free)
	})
}

// P18.3: streams of the other side's do not take room from this side's.
func TestAskBesideTheirs(t *testing.T) {
	p := start(t, true, 64)
	for stream := uint16(1); stream < 64; stream += 2 {
		if v, _, err := p.hear(opens(stream, labelled("theirs"))); v.What != opened || err != api.OK {
			t.Errorf("Hear is %#v, %v", v, err)
		}
	}
	for want := uint16(0); want < 64; want += 2 {
		if stream, _, err := p.ask(labelled("mine")); stream != want || err != api.OK {
			t.Errorf("Ask is %d, %v, want %d", stream, err, want)
		}
	}
	if _, _, err := p.ask(labelled("mine")); err != api.ErrFull {
		t.Errorf("Ask is %v", err)
	}
}
