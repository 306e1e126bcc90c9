package assoc_test

import (
	"encoding/binary"
	"reflect"
	"slices"
	"testing"

	"bollard/api"
	"bollard/assoc"
	"bollard/chunk"
	"bollard/cookie"
	"bollard/crc"
	"bollard/packet"
	"bollard/rto"
	"bollard/serial"
	"bollard/tlv"
	"bollard/xfer"
)

const (
	half     = uint32(1) << 31
	top      = ^uint32(0)
	greatest = int(^uint(0) >> 1)
	least    = -greatest - 1
	latest   = 1 << 40
	always   = -1 // a life, or tries: never given up
)

// The states, as the chapter numbers them.
const (
	closed    = 0
	waiting   = 1
	echoed    = 2
	open      = 3
	closing   = 4
	shutSent  = 5
	shutHeard = 6
	shutAcked = 7
	done      = 8
)

var table = crc.Table()

// saying is a timer, and what it says.
type saying struct {
	chunk  api.Chunk
	at     int
	wait   rto.State
	due    int // how often it was
	untold bool
}

// words says the chapter's words plainly, by the layers below.
type words struct {
	c            assoc.Config
	state        int
	mine, theirs uint32
	end          *xfer.End
	times        int
	timers       [4]*saying // those that do not stand, by their numbers
	asked        uint32     // the number of the last request
	underWay     []uint16
	doneNumbers  []uint32 // of the other side's requests that were done, the last one last
	restarted    []uint16
	performed    []uint16
}

// near is the nearer one of 0 and 2^40 of what is beyond them.
func near(time int) int {
	if time < 0 {
		return 0
	}
	if time > latest {
		return latest
	}
	return time
}

func newWords(c assoc.Config) *words {
	c.Key = slices.Clone(c.Key)
	if c.Streams <= 0 || c.Streams > 64 {
		c.Streams = 64
	}
	return &words{c: c}
}

// tagOf is a tag that is drawn.
func tagOf(draw uint32) uint32 {
	if draw == 0 {
		return 1
	}
	return draw
}

// lesser is the least of Streams and another number.
func (w *words) lesser(n uint16) uint16 {
	if w.c.Streams < int(n) {
		return uint16(w.c.Streams)
	}
	return n
}

func (w *words) says(id int, c api.Chunk, now int) {
	w.timers[id] = &saying{chunk: c, at: near(now) + 3000, wait: rto.Start(), untold: true}
}

func (w *words) ended() {
	w.state = done
	w.timers = [4]*saying{}
}

// made makes a new End.
func (w *words) made(mine, theirs uint32, c xfer.Config) {
	c.Mtu = w.c.Mtu
	w.mine, w.theirs, w.end = mine, theirs, xfer.New(c)
	w.times++
	w.asked, w.underWay, w.doneNumbers, w.restarted, w.performed = mine, nil, nil, nil, nil
}

func (w *words) start(now int, draw uint32) api.Errno {
	if w.state != closed {
		return api.ErrState
	}
	w.state, w.mine = waiting, tagOf(draw)
	n := uint16(w.c.Streams)
	w.says(1, api.Chunk{Kind: 1, A: w.mine, B: 65536, Out: n, In: n, Ppid: w.mine}, now)
	return api.OK
}

// sent is a packet of this side.
func (w *words) sent(tag uint32, l ...api.Chunk) api.Packet {
	return api.Packet{From: w.c.Port, To: w.c.Peer, Tag: tag, Chunks: l}
}

func (w *words) hear(b []byte, now int, draw uint32) ([]api.Packet, api.Errno) {
	p, err := packet.Decode(table, b)
	if err != api.OK {
		return nil, err
	}
	if p.From != w.c.Peer || p.To != w.c.Port {
		return nil, api.ErrArg
	}
	var answers []api.Packet
	for _, c := range p.Chunks {
		l, err := w.chunk(c, p.Tag, near(now), draw)
		answers = append(answers, l...)
		if err != api.OK {
			return answers, err
		}
		if last, _ := tlv.ChunkAction(c.Kind); last && unknown(c.Kind) {
			return answers, api.OK
		}
	}
	return answers, api.OK
}

// unknown tells that the chapter does not name a kind.
func unknown(kind uint8) bool {
	return !slices.Contains([]uint8{0, 1, 2, 3, 4, 5, 6, 7, 8, 9, 10, 11, 14, 130, 192}, kind)
}

func (w *words) chunk(c api.Chunk, tag uint32, now int, draw uint32) ([]api.Packet, api.Errno) {
	if c.Kind == 1 {
		return w.hearInit(c, tag, now, draw)
	}
	if c.Kind == 10 {
		return w.hearCookie(c, tag, now)
	}
	wanted := w.mine
	if (c.Kind == 6 || c.Kind == 14) && c.Flags%2 == 1 {
		wanted = w.theirs
		if wanted == 0 {
			return nil, api.ErrTag
		}
	}
	if tag != wanted || w.state == closed || w.state == done {
		return nil, api.ErrTag
	}
	switch c.Kind {
	case 2, 11:
		return nil, w.hearOpening(c, now)
	case 0, 3, 192:
		return w.hearTransfer(c, now)
	case 4:
		return []api.Packet{w.sent(w.theirs, api.Chunk{Kind: 5, Params: c.Params})}, api.OK
	case 6, 7, 8, 14:
		return w.hearEnd(c, now)
	case 130:
		return w.hearReset(c)
	}
	return nil, api.OK
}

func (w *words) hearInit(c api.Chunk, tag uint32, now int, draw uint32) ([]api.Packet, api.Errno) {
	if tag != 0 {
		return nil, api.ErrTag
	}
	if c.A == 0 || c.Out == 0 || c.In == 0 || len(w.c.Key) != 16 {
		return nil, api.ErrArg
	}
	if slices.Contains([]int{shutSent, shutHeard, shutAcked, done}, w.state) {
		return nil, api.ErrState
	}
	mine := tagOf(draw)
	if w.state == waiting || w.state == echoed {
		mine = w.mine
	}
	s := cookie.State{Made: now, Life: near(w.c.Life), Tag: mine, Peer: c.A, First: mine, PeerFirst: c.Ppid, Room: c.B, Out: w.lesser(c.In), In: w.lesser(c.Out), Ties: [2]uint32{w.mine, w.theirs}}
	b, _ := cookie.Encode(w.c.Key, s)
	ack := api.Chunk{Kind: 2, A: mine, B: 65536, Out: w.lesser(c.In), In: uint16(w.c.Streams), Ppid: mine, Params: []api.Param{{Kind: 7, V: b}}}
	return []api.Packet{w.sent(c.A, ack)}, api.OK
}

func (w *words) hearCookie(c api.Chunk, tag uint32, now int) ([]api.Packet, api.Errno) {
	s, err := cookie.Check(w.c.Key, c.Data, now)
	if err != api.OK {
		return nil, err
	}
	if tag != s.Tag || s.Tag == 0 {
		return nil, api.ErrTag
	}
	restarts := w.state == open && s.Ties[0] == w.mine && s.Ties[1] == w.theirs && s.Tag != w.mine
	if w.state == closed || w.state == waiting || w.state == echoed || restarts {
		w.made(s.Tag, s.Peer, xfer.Config{First: s.First, PeerFirst: s.PeerFirst, Room: s.Room, Out: int(s.Out), In: int(s.In)})
		w.state, w.timers = open, [4]*saying{}
	} else if s.Tag != w.mine || s.Peer != w.theirs || w.state == done {
		return nil, api.ErrState
	}
	return []api.Packet{w.sent(w.theirs, api.Chunk{Kind: 11})}, api.OK
}

// hearOpening hears an InitAck or a CookieAck.
func (w *words) hearOpening(c api.Chunk, now int) api.Errno {
	if c.Kind == 11 {
		if w.state != echoed {
			return api.ErrState
		}
		w.state, w.timers[1] = open, nil
		return api.OK
	}
	if w.state != waiting {
		return api.ErrState
	}
	if c.A == 0 || c.Out == 0 || c.In == 0 {
		return api.ErrArg
	}
	for _, p := range c.Params {
		if p.Kind == 7 {
			w.made(w.mine, c.A, xfer.Config{First: w.mine, PeerFirst: c.Ppid, Room: c.B, Out: int(w.lesser(c.In)), In: int(w.lesser(c.Out))})
			w.state = echoed
			w.says(1, api.Chunk{Kind: 10, Data: slices.Clone(p.V)}, now)
			return api.OK
		}
	}
	return api.ErrArg
}

func (w *words) hearTransfer(c api.Chunk, now int) ([]api.Packet, api.Errno) {
	if w.state == waiting || w.state == echoed {
		return nil, api.ErrState
	}
	err := w.end.Hear(c, now)
	if err == api.OK && c.Kind == 0 && w.state == shutSent {
		return []api.Packet{w.sent(w.theirs, api.Chunk{Kind: 7, A: w.end.Cum()})}, api.OK
	}
	return nil, err
}

// hearEnd hears an Abort, a Shutdown, a ShutdownAck or a ShutdownDone.
func (w *words) hearEnd(c api.Chunk, now int) ([]api.Packet, api.Errno) {
	switch {
	case c.Kind == 6, c.Kind == 14 && w.state == shutAcked:
		w.ended()
	case c.Kind == 8 && (w.state == shutSent || w.state == shutAcked):
		w.ended()
		return []api.Packet{w.sent(w.theirs, api.Chunk{Kind: 14})}, api.OK
	case c.Kind == 7 && (w.state == open || w.state == closing):
		w.state = shutHeard
	case c.Kind == 7 && w.state == shutSent:
		w.state = shutAcked
		w.says(2, api.Chunk{Kind: 8}, now)
	case c.Kind == 7 && (w.state == shutHeard || w.state == shutAcked):
	default:
		return nil, api.ErrState
	}
	return nil, api.OK
}

func (w *words) hearReset(c api.Chunk) ([]api.Packet, api.Errno) {
	if w.state != open && w.state != closing && w.state != shutHeard {
		return nil, api.ErrState
	}
	var answers []api.Packet
	for _, p := range c.Params {
		switch {
		case p.Kind == 13 && (len(p.V) < 10 || len(p.V)%2 == 1), p.Kind == 16 && len(p.V) != 8:
			return answers, api.ErrArg
		case p.Kind == 13:
			number := binary.BigEndian.Uint32(p.V)
			answers = append(answers, w.sent(w.theirs, answer(number, w.asks(number, p.V))))
		case p.Kind == 16:
			w.isAnswered(binary.BigEndian.Uint32(p.V), binary.BigEndian.Uint32(p.V[4:]))
		}
	}
	return answers, api.OK
}

// asks does what the other side asks for; the result.
func (w *words) asks(number uint32, v []byte) uint32 {
	if serial.Less(w.end.Cum(), binary.BigEndian.Uint32(v[4:])) {
		return 6
	}
	n := len(w.doneNumbers)
	if n == 0 || serial.Less(w.doneNumbers[n-1], number) {
		for i := 8; i < len(v); i += 2 {
			stream := binary.BigEndian.Uint16(v[i:])
			w.end.Restart(stream, true)
			w.restarted = append(w.restarted, stream)
		}
		w.doneNumbers = append(w.doneNumbers, number)
	}
	return 1
}

func (w *words) isAnswered(number, result uint32) {
	if w.underWay == nil || number != w.asked || result != 1 {
		return
	}
	for _, stream := range w.underWay {
		w.end.Restart(stream, false)
		w.performed = append(w.performed, stream)
	}
	w.underWay, w.timers[3] = nil, nil
}

func (w *words) tick(now int) {
	if w.state == closed || w.state == done {
		return
	}
	w.end.Tick(now)
	if w.end.Failures() > 10 {
		w.ended()
	}
	for _, s := range w.timers {
		if s == nil || s.at > near(now) {
			continue
		}
		s.due++
		if s.due == 9 {
			w.ended()
			return
		}
		s.wait = rto.Back(s.wait)
		s.at = near(now) + s.wait.Wait
		s.untold = true
	}
}

func (w *words) tell(now int) []api.Packet {
	var sends []api.Chunk
	if w.state >= open && w.state <= shutAcked {
		sends = w.end.Tell(now)
		if w.state == closing && w.end.Idle() {
			w.state = shutSent
			w.says(2, api.Chunk{Kind: 7, A: w.end.Cum()}, now)
		} else if w.state == shutHeard && w.end.Idle() {
			w.state = shutAcked
			w.says(2, api.Chunk{Kind: 8}, now)
		}
	}
	var told []api.Chunk
	for _, s := range w.timers {
		if s != nil && s.untold {
			told = append(told, s.chunk)
			s.untold = false
		}
	}
	tag := w.theirs
	if len(told) > 0 && told[0].Kind == 1 {
		tag = 0
	}
	groups, _ := packet.Bundle(append(told, sends...))
	var packets []api.Packet
	for _, group := range groups {
		packets = append(packets, w.sent(tag, group...))
	}
	return packets
}

func (w *words) restart(streams []uint16, now int) api.Errno {
	if w.state != open || w.underWay != nil {
		return api.ErrState
	}
	if len(streams) < 1 || len(streams) > 64 {
		return api.ErrArg
	}
	w.asked++
	w.underWay = slices.Clone(streams)
	w.says(3, ask(w.asked, w.end.Next()-1, streams...), now)
	return api.OK
}

func (w *words) abort() []api.Packet {
	if w.state == closed || w.state == done {
		return nil
	}
	w.ended()
	if w.theirs == 0 {
		return nil
	}
	return []api.Packet{w.sent(w.theirs, api.Chunk{Kind: 6})}
}

// ask is a Reset that asks for a restart of streams.
func ask(number, last uint32, streams ...uint16) api.Chunk {
	v := binary.BigEndian.AppendUint32(nil, number)
	v = binary.BigEndian.AppendUint32(v, last)
	for _, stream := range streams {
		v = binary.BigEndian.AppendUint16(v, stream)
	}
	return reset(api.Param{Kind: 13, V: v})
}

// answer is a Reset that answers a request.
func answer(number, result uint32) api.Chunk {
	return reset(api.Param{Kind: 16, V: binary.BigEndian.AppendUint32(binary.BigEndian.AppendUint32(nil, number), result)})
}

func reset(l ...api.Param) api.Chunk { return api.Chunk{Kind: 130, Params: l} }

// samePackets holds packets against each other; a list without elements may be nil or not.
func samePackets(a, b []api.Packet) bool {
	return slices.EqualFunc(a, b, func(x, y api.Packet) bool {
		return x.From == y.From && x.To == y.To && x.Tag == y.Tag && slices.EqualFunc(x.Chunks, y.Chunks, chunk.Same)
	})
}

func sameMessages(a, b []api.Message) bool {
	return slices.EqualFunc(a, b, func(x, y api.Message) bool { return reflect.DeepEqual(x, y) })
}

// packed is a packet's octets.
func packed(t *testing.T, p api.Packet) []byte {
	t.Helper()
	b, err := packet.Encode(table, p)
	if err != api.OK {
		t.Fatalf("there is no packet of %v: %v", p, err)
	}
	return b
}

// unpacked are packets; their octets are turned then, so that nobody may go on by them.
func unpacked(t *testing.T, l [][]byte) []api.Packet {
	t.Helper()
	var packets []api.Packet
	for _, b := range l {
		p, err := packet.Decode(table, b)
		if err != api.OK {
			t.Fatalf("%v is no packet: %v", b, err)
		}
		packets = append(packets, p)
	}
	for i, b := range l {
		turn(b)
		l[i] = nil
	}
	return packets
}

// turn turns all octets, and those that stand behind them in the same memory.
func turn(v []byte) {
	v = v[:cap(v)]
	for i := range v {
		v[i] ^= 255
	}
}

// turnStreams turns all numbers, and those that stand behind them in the same memory.
func turnStreams(v []uint16) {
	v = v[:cap(v)]
	for i := range v {
		v[i] ^= 65535
	}
}
