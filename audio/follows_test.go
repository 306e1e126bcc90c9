package audio_test

import (
	"bytes"
	"math/rand"
	"testing"

	"bollard/api"
	"bollard/audio"
)

// The chapter's example.
func TestExample(t *testing.T) {
	forward := audio.New(2, 64)
	forward.Listen(0)
	forward.Listen(1)
	for _, seq := range []uint16{700, 703} {
		if n, err := forward.Hear(0, audio.Packet{Seq: seq, Source: 9}); n != 1 || err != api.OK {
			t.Errorf("Hear is %d, %v", n, err)
		}
	}
	for _, seq := range []uint16{0, 3} {
		if x, there := forward.Pull(1); !samePackets(x, audio.Packet{Seq: seq, Source: 1}) || !there {
			t.Errorf("Pull is %s, %v", told(x), there)
		}
	}
}

// calls are those of a small Forwarder of three parties.
var calls = []func(p *pair){
	func(p *pair) { p.hear(0, audio.Packet{Seq: 65535, Source: 1, Data: []byte{1}}) },
	func(p *pair) { p.hear(0, audio.Packet{Seq: 0, Source: 1, Marker: true}) },
	func(p *pair) { p.hear(0, audio.Packet{Seq: 2, Source: 1, Stamp: 5}) },
	func(p *pair) { p.hear(0, audio.Packet{Seq: 2, Source: 2, Kind: 3}) },
	func(p *pair) { p.hear(1, audio.Packet{Seq: 2, Source: 1}) },
	func(p *pair) { p.hear(1, audio.Packet{Seq: 9, Source: 1}) },
	func(p *pair) { p.hear(2, audio.Packet{Seq: 2, Source: 1}) },
	func(p *pair) { p.hear(0, audio.Packet{Seq: 5, Source: 1, Kind: 128}) },
	func(p *pair) { p.pull(1) },
	func(p *pair) { p.pull(2) },
	func(p *pair) { p.quiet(1) },
	func(p *pair) { p.listen(1) },
	func(p *pair) { p.quiet(0); p.listen(0) },
}

// P20.2 to P20.4: all rows of four calls, behind each of some leads, against the chapter's words.
func TestRows(t *testing.T) {
	leads := [][]int{{}, {0, 6, 2}, {3, 5, 6}}
	rows := 1
	for range 4 {
		rows *= len(calls)
	}
	for room := 1; room <= 2; room++ {
		for _, lead := range leads {
			for row := range rows {
				p := listening(t, 3, room)
				for _, i := range lead {
					calls[i](p)
				}
				rest := row
				for range 4 {
					calls[rest%len(calls)](p)
					rest /= len(calls)
				}
				if t.Failed() {
					t.Fatalf("room %d, behind %v the row %d", room, lead, row)
				}
			}
		}
	}
}

// drawnSeq is a number near to one that was said before, or any.
func drawnSeq(draw *rand.Rand, before uint16) uint16 {
	switch draw.Intn(10) {
	case 0:
		return uint16(draw.Intn(65536))
	case 1:
		return before + 32768 + uint16(draw.Intn(3)) - 1
	case 2:
		return before - uint16(draw.Intn(5))
	}
	return before + uint16(draw.Intn(4))
}

// drawnPacket is any packet, seldom one that is refused.
func drawnPacket(draw *rand.Rand, before uint16) audio.Packet {
	x := audio.Packet{Marker: draw.Intn(2) == 0, Kind: uint8(draw.Intn(128)), Seq: drawnSeq(draw, before), Stamp: draw.Uint32(), Source: uint32(draw.Intn(8) / 6), Data: make([]byte, draw.Intn(4))}
	draw.Read(x.Data)
	if draw.Intn(40) == 0 {
		x.Kind += 128
	}
	if draw.Intn(40) == 0 {
		x.Data = make([]byte, 1187+draw.Intn(4))
	}
	return x
}

// P20.2 to P20.4: scripts of all calls, against the chapter's words; in the end all that waits is pulled.
func TestScripts(t *testing.T) {
	draw := rand.New(rand.NewSource(202))
	lost, waited := 0, 0
	for range 1500 {
		p := listening(t, 1+draw.Intn(5), 1+draw.Intn(6))
		var before [16]uint16
		for range 150 {
			party := draw.Intn(p.words.parties)
			if draw.Intn(60) == 0 {
				p.hear(outside[draw.Intn(len(outside))], drawnPacket(draw, 0))
			}
			switch n := draw.Intn(100); {
			case n < 3:
				p.quiet(party)
			case n < 10:
				p.listen(party)
			case n < 70:
				x := drawnPacket(draw, before[party])
				before[party] = x.Seq
				p.hear(party, x)
			default:
				p.pull(party)
			}
		}
		for party := range p.words.parties {
			lost += p.forward.Lost(party)
			for p.forward.Waiting(party) > 0 {
				p.pull(party)
				waited++
			}
			p.pull(party)
		}
	}
	if lost == 0 || waited == 0 {
		t.Errorf("%d were lost, %d waited", lost, waited)
	}
}

// run is a Forwarder, all that was said by each party, and for each two of them how far a listener has come in what a speaker said, and in its new numbers.
type run struct {
	t          *testing.T
	forward    *audio.Forwarder
	said       [][]audio.Packet
	come, last [16][16]int
}

// pulls pulls one packet: it is one of those that its speaker said behind the last one, as it was, and its number is greater than the last one's, by as much as could be, going round.
func (r *run) pulls(party int) bool {
	x, there := r.forward.Pull(party)
	if !there {
		return false
	}
	from := int(x.Source) - 1
	if from < 0 || from >= len(r.said) || from == party {
		r.t.Fatalf("%d pulls %s", party, told(x))
	}
	come := r.come[party][from]
	for come < len(r.said[from]) && !sameSound(r.said[from][come], x) {
		come++
	}
	if come == len(r.said[from]) {
		r.t.Fatalf("%d pulls %s, which was not said behind what it pulled before", party, told(x))
	}
	number := r.last[party][from] + 1
	number += (int(x.Seq) - number%65536 + 65536) % 65536
	if number-r.last[party][from] > 32767 {
		r.t.Fatalf("%d pulls the number %d behind %d", party, x.Seq, r.last[party][from])
	}
	r.come[party][from], r.last[party][from] = come+1, number
	return true
}

// sameSound: what a listener is to hear of a packet as it was.
func sameSound(a, b audio.Packet) bool {
	return a.Marker == b.Marker && a.Kind == b.Kind && a.Stamp == b.Stamp && bytes.Equal(a.Data, b.Data)
}

// P20.5, W5: what a listener pulls of a speaker is, in order, a part of what that one said, its Data, Stamp, Marker and Kind as they were, and new numbers rise, going round.
func TestPartsInOrder(t *testing.T) {
	draw := rand.New(rand.NewSource(203))
	for range 400 {
		parties, room := 2+draw.Intn(4), 1+draw.Intn(6)
		r := &run{t: t, forward: listeners(parties, room), said: make([][]audio.Packet, parties)}
		for i := range r.last {
			for k := range r.last[i] {
				r.last[i][k] = -1
			}
		}
		seq := uint16(draw.Intn(65536))
		for i := range 300 {
			party := draw.Intn(parties)
			// All stay near to each other: the numbers of what is lost in between do not come round to what was pulled.
			seq += uint16(draw.Intn(200))
			x := audio.Packet{Marker: draw.Intn(2) == 0, Kind: uint8(draw.Intn(128)), Seq: seq + uint16(draw.Intn(8)), Stamp: uint32(i), Source: uint32(draw.Intn(10) / 9), Data: []byte{byte(i), byte(i >> 8)}}
			r.said[party] = append(r.said[party], x)
			r.forward.Hear(party, x)
			for range draw.Intn(3 * parties) {
				r.pulls(draw.Intn(parties))
			}
		}
		for party := range parties {
			for r.pulls(party) {
			}
		}
	}
}

// P20.5: where nothing is lost and nothing comes backwards, all comes, numbered as far from each other as it was.
func TestAllInOrder(t *testing.T) {
	draw := rand.New(rand.NewSource(204))
	for range 200 {
		p := listening(t, 3, 64)
		seq := uint16(draw.Intn(65536))
		first := seq
		for range 300 {
			if n := p.says(0, 4, seq); n != 2 {
				t.Fatalf("%d took it", n)
			}
			for party := 1; party < 3; party++ {
				if x, there := p.pull(party); !there || x.Seq != seq-first {
					t.Fatalf("%d pulls %s, %v, want the number %d", party, told(x), there, seq-first)
				}
			}
			seq += 1 + uint16(draw.Intn(1000))
		}
	}
}

// P20.5, W6: no party ever has more than room packets.
func TestBounds(t *testing.T) {
	draw := rand.New(rand.NewSource(205))
	for range 300 {
		parties, room := 2+draw.Intn(15), 1+draw.Intn(64)
		forward := listeners(parties, room)
		for i := range 400 {
			if n, _ := forward.Hear(draw.Intn(parties), audio.Packet{Seq: uint16(i), Source: uint32(draw.Intn(2))}); n > parties-1 {
				t.Fatalf("%d of %d took it", n, parties)
			}
			if draw.Intn(4) == 0 {
				forward.Pull(draw.Intn(parties))
			}
			for party := range parties {
				if n := forward.Waiting(party); n > room {
					t.Fatalf("%d wait, where there is room for %d", n, room)
				}
			}
		}
		for party := range parties {
			pulled := 0
			for _, there := forward.Pull(party); there; _, there = forward.Pull(party) {
				pulled++
			}
			if pulled > room {
				t.Fatalf("%d are pulled, where there is room for %d", pulled, room)
			}
		}
	}
}
