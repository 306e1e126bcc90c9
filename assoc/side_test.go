package assoc_test

import (
	"bytes"
	"encoding/binary"
	"reflect"
	"slices"
	"testing"

	"bollard/api"
	"bollard/assoc"
	"bollard/chunk"
	"bollard/cookie"
	"bollard/crc"
	"bollard/packet"
	"bollard/split"
)

// The numbers of the usual side, and of the one that it speaks to.
const (
	mine      = 77
	theirs    = 88
	peerFirst = 500
	port      = 5000
	peer      = 6000
)

// side is an Assoc, and beside it what the words make of the same calls. After each call the two are held against each other. What is handed in and what was told is turned behind each call, so that nobody may go on by it.
type side struct {
	t *testing.T
	a *assoc.Assoc
	w *words
}

// key is the usual one.
func key() []byte { return []byte("0123456789abcdef") }

// config is the usual one.
func config() assoc.Config {
	return assoc.Config{Port: port, Peer: peer, Key: key(), Streams: 4, Mtu: 128, Life: 5000}
}

func begin(t *testing.T, c assoc.Config) *side {
	t.Helper()
	handed := c
	handed.Key = slices.Clone(c.Key)
	s := &side{t, assoc.New(handed), newWords(c)}
	turn(handed.Key)
	s.same()
	return s
}

// same asks that the Assoc has what the words have, by every call that changes nothing.
func (s *side) same() {
	s.t.Helper()
	own, other := s.a.Tags()
	if s.a.State() != s.w.state || s.a.Times() != s.w.times || own != s.w.mine || other != s.w.theirs {
		s.t.Fatalf("State is %d, Times %d, Tags %d, %d, want %d, %d, %d, %d", s.a.State(), s.a.Times(), own, other, s.w.state, s.w.times, s.w.mine, s.w.theirs)
	}
}

func (s *side) start(now int, draw uint32) api.Errno {
	s.t.Helper()
	want := s.w.start(now, draw)
	if got := s.a.Start(now, draw); got != want {
		s.t.Fatalf("Start is %v, want %v", got, want)
	}
	s.same()
	return want
}

// hears hands in octets, whatever is answered.
func (s *side) hears(b []byte, now int, draw uint32) ([]api.Packet, api.Errno) {
	s.t.Helper()
	want, wantErr := s.w.hear(slices.Clone(b), now, draw)
	handed := append(slices.Clone(b), 1, 2, 3)[:len(b)]
	l, err := s.a.Hear(handed, now, draw)
	if !bytes.Equal(handed, b) || !bytes.Equal(handed[:len(b)+3][len(b):], []byte{1, 2, 3}) {
		s.t.Fatalf("Hear has changed what was handed in")
	}
	turn(handed)
	if got := unpacked(s.t, l); err != wantErr || !samePackets(got, want) {
		s.t.Fatalf("Hear answers %v, %v, want %v, %v", got, err, want, wantErr)
	}
	s.same()
	return want, wantErr
}

// hearsChunks hands in chunks in one packet of the other side.
func (s *side) hearsChunks(tag uint32, now int, l ...api.Chunk) ([]api.Packet, api.Errno) {
	s.t.Helper()
	return s.hears(s.packed(tag, l...), now, 0)
}

// packed are chunks in one packet of the other side.
func (s *side) packed(tag uint32, l ...api.Chunk) []byte {
	s.t.Helper()
	return packed(s.t, api.Packet{From: s.w.c.Peer, To: s.w.c.Port, Tag: tag, Chunks: l})
}

// hear hands in chunks under this side's tag that are taken and not answered.
func (s *side) hear(now int, l ...api.Chunk) {
	s.t.Helper()
	s.answers(now, l)
}

// answers hands in chunks under this side's tag, and asks for one packet for each of these answers, under the other side's.
func (s *side) answers(now int, l []api.Chunk, want ...api.Chunk) {
	s.t.Helper()
	got, err := s.hearsChunks(s.w.mine, now, l...)
	if err != api.OK {
		s.t.Fatalf("Hear of %v is %v", l, err)
	}
	s.are(got, want...)
}

// are asks that packets have one of these chunks each, under the other side's tag.
func (s *side) are(got []api.Packet, want ...api.Chunk) {
	s.t.Helper()
	var packets []api.Packet
	for _, c := range want {
		packets = append(packets, s.packet(c))
	}
	if !samePackets(got, packets) {
		s.t.Fatalf("there is told %v, want %v", got, packets)
	}
}

// packet is a packet of this side under the other one's tag.
func (s *side) packet(l ...api.Chunk) api.Packet {
	return api.Packet{From: s.w.c.Port, To: s.w.c.Peer, Tag: s.w.theirs, Chunks: l}
}

// refuses hands in chunks in one packet, the last one of which has an error, and the ones ahead no answer; nothing that can be asked changes.
func (s *side) refuses(want api.Errno, tag uint32, l ...api.Chunk) {
	s.t.Helper()
	state := s.a.State()
	got, err := s.hearsChunks(tag, 0, l...)
	if err != want || len(got) != 0 || s.a.State() != state {
		s.t.Fatalf("in the state %d Hear of %v is %v, %v, want %v; the state is then %d", state, l, got, err, want, s.a.State())
	}
}

func (s *side) tick(now int) {
	s.t.Helper()
	s.w.tick(now)
	s.a.Tick(now)
	s.same()
}

// tell asks for what the words tell.
func (s *side) tell(now int) []api.Packet {
	s.t.Helper()
	want := s.w.tell(now)
	if got := unpacked(s.t, s.a.Tell(now)); !samePackets(got, want) {
		s.t.Fatalf("Tell(%d) is %v, want %v", now, got, want)
	}
	s.same()
	return want
}

// tells asks for one packet of these chunks under the other side's tag; of none for no packet.
func (s *side) tells(now int, want ...api.Chunk) {
	s.t.Helper()
	got := s.tell(now)
	if len(want) == 0 && len(got) == 0 {
		return
	}
	if !samePackets(got, []api.Packet{s.packet(want...)}) {
		s.t.Fatalf("Tell(%d) is %v, want %v", now, got, want)
	}
}

// sends sends a message, whatever is answered.
func (s *side) sends(m api.Message, life, tries, now int) api.Errno {
	s.t.Helper()
	want := api.ErrState
	if s.w.state == open {
		want = s.w.end.Send(copied(m), life, tries, now)
	}
	handed := copied(m)
	if got := s.a.Send(handed, life, tries, now); got != want {
		s.t.Fatalf("Send of %d octets on %d is %v, want %v", len(m.Data), m.Stream, got, want)
	}
	if !reflect.DeepEqual(handed, copied(m)) {
		s.t.Fatalf("Send has changed %v to %v", m, handed)
	}
	turn(handed.Data)
	s.same()
	return want
}

// send sends messages that are taken, and never given up, at 0.
func (s *side) send(l ...api.Message) {
	s.t.Helper()
	for _, m := range l {
		if err := s.sends(m, always, always, 0); err != api.OK {
			s.t.Fatalf("Send is %v", err)
		}
	}
}

// messages asks for what the words tell.
func (s *side) messages() []api.Message {
	s.t.Helper()
	got, want := s.a.Messages(), s.w.end.Messages()
	if !sameMessages(got, want) {
		s.t.Fatalf("Messages is %v, want %v", got, want)
	}
	for i := range got {
		turn(got[i].Data)
		got[i] = api.Message{}
	}
	s.same()
	return want
}

// has asks for messages, and that there are no more then.
func (s *side) has(want ...api.Message) {
	s.t.Helper()
	if got := s.messages(); !sameMessages(got, want) {
		s.t.Fatalf("Messages is %v, want %v", got, want)
	}
	if got := s.a.Messages(); len(got) != 0 {
		s.t.Fatalf("Messages is %v, asked again", got)
	}
}

// restarts restarts streams, whatever is answered.
func (s *side) restarts(now int, streams ...uint16) api.Errno {
	s.t.Helper()
	want := s.w.restart(streams, now)
	handed := slices.Clone(streams)
	if got := s.a.Restart(handed, now); got != want {
		s.t.Fatalf("Restart of %v is %v, want %v", streams, got, want)
	}
	if !slices.Equal(handed, streams) {
		s.t.Fatalf("Restart has changed %v to %v", streams, handed)
	}
	turnStreams(handed)
	s.same()
	return want
}

// restart restarts streams, which is taken.
func (s *side) restart(now int, streams ...uint16) {
	s.t.Helper()
	if err := s.restarts(now, streams...); err != api.OK {
		s.t.Fatalf("Restart is %v", err)
	}
}

// streams asks for what the words tell of streams that began anew.
func (s *side) streams() (restarted, performed []uint16) {
	s.t.Helper()
	restarted, performed = s.w.restarted, s.w.performed
	s.w.restarted, s.w.performed = nil, nil
	in, out := s.a.Restarted(), s.a.Performed()
	if !slices.Equal(in, restarted) || !slices.Equal(out, performed) {
		s.t.Fatalf("Restarted is %v, Performed %v, want %v, %v", in, out, restarted, performed)
	}
	turnStreams(in)
	turnStreams(out)
	s.same()
	return restarted, performed
}

// restarted asks for the streams that the other side restarted, that none is performed, and that there are no more then.
func (s *side) restarted(want ...uint16) {
	s.t.Helper()
	if in, out := s.streams(); !slices.Equal(in, want) || len(out) != 0 {
		s.t.Fatalf("Restarted is %v, Performed %v, want %v and none", in, out, want)
	}
	s.noStreams()
}

// performed asks for the streams whose restart by this side is done, that none is restarted, and that there are no more then.
func (s *side) performed(want ...uint16) {
	s.t.Helper()
	if in, out := s.streams(); len(in) != 0 || !slices.Equal(out, want) {
		s.t.Fatalf("Restarted is %v, Performed %v, want none and %v", in, out, want)
	}
	s.noStreams()
}

// noStreams asks that no stream began anew.
func (s *side) noStreams() {
	s.t.Helper()
	if in, out := s.a.Restarted(), s.a.Performed(); len(in) != 0 || len(out) != 0 {
		s.t.Fatalf("Restarted is %v, Performed %v", in, out)
	}
}

func (s *side) close(now int) api.Errno {
	s.t.Helper()
	want := api.ErrState
	if s.w.state == open {
		s.w.state, want = closing, api.OK
	}
	if got := s.a.Close(now); got != want {
		s.t.Fatalf("Close is %v, want %v", got, want)
	}
	s.same()
	return want
}

func (s *side) abort() []api.Packet {
	s.t.Helper()
	want := s.w.abort()
	if got := unpacked(s.t, s.a.Abort()); !samePackets(got, want) {
		s.t.Fatalf("Abort is %v, want %v", got, want)
	}
	s.same()
	return want
}

// state asks for a state.
func (s *side) state(want int) {
	s.t.Helper()
	if got := s.a.State(); got != want {
		s.t.Fatalf("State is %d, want %d", got, want)
	}
}

// tags asks for both tags, and how many Ends were made.
func (s *side) tags(own, other uint32, times int) {
	s.t.Helper()
	if gotOwn, gotOther := s.a.Tags(); gotOwn != own || gotOther != other || s.a.Times() != times {
		s.t.Fatalf("Tags is %d, %d, Times %d, want %d, %d, %d", gotOwn, gotOther, s.a.Times(), own, other, times)
	}
}

// usual is the usual side in a state, at 0. Its tags are mine and theirs (as far as it has them), its End was made by welcome, and nothing is to be told. In Closing and in ShutHeard a message of three octets is under way, so that it stays there.
func usual(t *testing.T, state int) *side {
	t.Helper()
	return in(t, config(), state)
}

// in is a side of a config in a state, as usual.
func in(t *testing.T, c assoc.Config, state int) *side {
	t.Helper()
	s := begin(t, c)
	if state == closed {
		return s
	}
	s.start(0, mine)
	s.tell(0)
	if state >= echoed {
		s.hear(0, welcome())
		s.tell(0)
	}
	if state >= open {
		s.hear(0, api.Chunk{Kind: 11})
	}
	if state == closing || state == shutHeard {
		s.send(text(0, 3))
		s.tell(0)
	}
	switch state {
	case closing:
		s.close(0)
	case shutSent:
		s.close(0)
		s.tell(0)
	case shutHeard:
		s.hear(0, shutdown(0))
	case shutAcked:
		s.hear(0, shutdown(0))
		s.tell(0)
	case done:
		s.abort()
	}
	s.state(state)
	s.tells(0)
	return s
}

// states are all of them.
func states() []int {
	return []int{closed, waiting, echoed, open, closing, shutSent, shutHeard, shutAcked, done}
}

// invitation is an Init of the other side.
func invitation() api.Chunk {
	return api.Chunk{Kind: 1, A: theirs, B: 70000, Out: 3, In: 2, Ppid: peerFirst}
}

// welcome is an InitAck of the other side.
func welcome() api.Chunk {
	return api.Chunk{Kind: 2, A: theirs, B: 70000, Out: 3, In: 2, Ppid: peerFirst, Params: []api.Param{{Kind: 7, V: []byte("brought")}}}
}

// state of a cookie that the usual side makes of the usual Init: with its own tags as they are.
func cookieState() cookie.State {
	return cookie.State{Made: 0, Life: 5000, Tag: mine, Peer: theirs, First: mine, PeerFirst: peerFirst, Room: 70000, Out: 2, In: 3}
}

// brought is a CookieEcho of a state, under the usual key.
func brought(t *testing.T, s cookie.State) api.Chunk {
	t.Helper()
	b, ok := cookie.Encode(key(), s)
	if !ok {
		t.Fatalf("there is no cookie of %v", s)
	}
	return api.Chunk{Kind: 10, Data: b}
}

func shutdown(n uint32) api.Chunk { return api.Chunk{Kind: 7, A: n} }

// sack is an answer.
func sack(floor, room uint32) api.Chunk { return api.Chunk{Kind: 3, A: floor, B: room} }

// flight is a message as one chunk.
func flight(n uint32, number uint16, m api.Message) api.Chunk {
	return api.Chunk{Kind: 0, Flags: split.Begin | split.End, A: n, Out: m.Stream, In: number, Ppid: m.Ppid, Data: m.Data}
}

// text is a message in order of so many octets.
func text(stream uint16, n int) api.Message {
	m := api.Message{Stream: stream, Ppid: 51, Data: make([]byte, n)}
	for i := range m.Data {
		m.Data[i] = byte(7*i + n)
	}
	return m
}

func copied(m api.Message) api.Message {
	m.Data = slices.Clone(m.Data)
	return m
}

// crowded are chunks in one packet that nobody may put together, so that it is done by hand.
func crowded(t *testing.T, l ...api.Chunk) []byte {
	t.Helper()
	b := packed(t, api.Packet{From: peer, To: port, Tag: mine, Chunks: l[:1]})
	for _, c := range l[1:] {
		behind, err := chunk.Encode(c)
		if err != api.OK {
			t.Fatalf("there are no octets of %v: %v", c, err)
		}
		b = append(b, behind...)
	}
	return summed(b)
}

// asTwin asks that a side is like another one, that was asked less.
func (s *side) asTwin(twin *side) {
	s.t.Helper()
	if !reflect.DeepEqual(s.a, twin.a) {
		s.t.Errorf("in the state %d something has changed", s.w.state)
	}
}

// crowdedBy is a packet under this side's tag of octets that stand in the place of chunks.
func crowdedBy(t *testing.T, octets ...byte) []byte {
	t.Helper()
	b := packed(t, api.Packet{From: peer, To: port, Tag: mine, Chunks: []api.Chunk{{Kind: 6}}})
	return summed(append(b[:12], octets...))
}

// summed are a packet's octets with the checksum that fits them.
func summed(b []byte) []byte {
	clear(b[8:12])
	binary.LittleEndian.PutUint32(b[8:], crc.Sum(table, b))
	return b
}

// full is a chunk that has all fields that its kind has.
func full(kind uint8) api.Chunk {
	c := api.Chunk{Kind: kind, Flags: 255}
	params := []api.Param{{Kind: 7, V: make([]byte, 60)}, {Kind: 13, V: make([]byte, 10)}, {Kind: 16, V: make([]byte, 8)}}
	switch kind {
	case 0:
		c.A, c.Out, c.In, c.Ppid, c.Data = 5, 1, 1, 51, []byte{1}
	case 1, 2:
		c.A, c.B, c.Out, c.In, c.Ppid, c.Params = 5, 6, 1, 1, 5, params
	case 3:
		c.A, c.B, c.Blocks, c.Dups = 5, 6, []api.Block{{From: 1, To: 2}}, []uint32{3}
	case 4, 5, 6, 9, 130:
		c.Params = params
	case 7:
		c.A = 5
	case 8, 11, 14:
	case 192:
		c.A, c.Skips = 5, []api.Skip{{Stream: 1, Ssn: 1}}
	default:
		c.Data = []byte{1, 2}
	}
	return c
}

// packetOf is a packet of a chunk.
func packetOf(from, to uint16, tag uint32, c api.Chunk) ([]byte, api.Errno) {
	return packet.Encode(table, api.Packet{From: from, To: to, Tag: tag, Chunks: []api.Chunk{c}})
}
