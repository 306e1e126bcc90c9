package xfer_test

import (
	"reflect"
	"slices"
	"testing"

	"bollard/api"
	"bollard/gaps"
	"bollard/join"
	"bollard/rto"
	"bollard/sendq"
	"bollard/split"
	"bollard/window"
	"bollard/xfer"
)

const (
	half     = uint32(1) << 31
	top      = ^uint32(0)
	greatest = int(^uint(0) >> 1)
	least    = -greatest - 1
	latest   = 1 << 40
	always   = -1 // a life, or tries: never given up
)

// The flags of a chunk.
const (
	end   = 1
	begin = 2
	alone = begin | end
	loose = 4
)

// words says the chapter's words plainly, by the layers below.
type words struct {
	queue    *sendq.Queue
	set      *gaps.Set
	join     *join.Join
	window   window.State
	wait     rto.State
	room     int
	next     map[uint16]uint16 // of each stream to send on
	timer    []int             // when it is due; empty: it stands
	owed     bool
	skipped  []uint32 // up to where it last told to skip; empty: none
	failures int
}

func newWords(c xfer.Config) *words {
	w := &words{queue: sendq.New(c.First), set: gaps.New(c.PeerFirst), join: join.New(c.In), window: window.Start(c.Mtu), wait: rto.Start(), room: int(c.Room), next: map[uint16]uint16{}}
	if c.Out < 1 || c.Out > 64 {
		c.Out = 64
	}
	for stream := range c.Out {
		w.next[uint16(stream)] = 0
	}
	return w
}

// near is the nearer one of 0 and 2^40 of what is beyond them.
func near(time int) int {
	if time < 0 {
		return 0
	}
	if time > latest {
		return latest
	}
	return time
}

func (w *words) send(m api.Message, life, tries, now int) api.Errno {
	number, there := w.next[m.Stream]
	if !there {
		return api.ErrName
	}
	most := 1172
	if w.window.Mtu-28 < most {
		most = w.window.Mtu - 28
	}
	if most < 1 {
		most = 1
	}
	l, err := split.Split(m, 0, number, most)
	if err != api.OK {
		return err
	}
	if w.queue.Left()+len(m.Data) > 65536 {
		return api.ErrFull
	}
	until := -1
	if life >= 0 {
		until = near(now) + near(life)
	}
	if err := w.queue.Push(l, until, tries); err != api.OK {
		return err
	}
	if !m.Unordered {
		w.next[m.Stream] = number + 1
	}
	return api.OK
}

// height is how many steps lead from the floor to a number.
func (w *words) height(n uint32) int64 {
	return (int64(n) - int64(w.set.Cum()) + 1<<32) % (1 << 32)
}

func (w *words) hear(c api.Chunk, now int) api.Errno {
	switch c.Kind {
	case 0:
		return w.data(c)
	case 3:
		return w.sack(c, near(now))
	case 192:
		if h := w.height(c.A); h >= 1 && h <= 1<<31-1 {
			w.set.Forward(c.A)
			w.join.Forward(c.A, c.Skips)
		}
		w.owed = true
		return api.OK
	}
	return api.ErrArg
}

func (w *words) data(c api.Chunk) api.Errno {
	if w.set.Has(c.A) {
		w.set.Add(c.A)
		w.owed = true
		return api.OK
	}
	if w.height(c.A) > 1024 {
		return api.ErrFull
	}
	if err := w.join.Add(c); err != api.OK {
		return err
	}
	w.set.Add(c.A)
	w.owed = true
	return api.OK
}

func (w *words) sack(c api.Chunk, now int) api.Errno {
	flew := w.queue.Flying()
	r, ok := w.queue.Ack(c.A, c.Blocks, now)
	if !ok {
		return api.ErrForm
	}
	w.room = int(c.B)
	if r.Sample >= 0 {
		w.wait = rto.Sample(w.wait, r.Sample)
	}
	w.window = window.Acked(w.window, r.Bytes, flew >= w.window.Cwnd, c.A)
	if r.Loss {
		w.window = window.Lost(w.window, w.queue.Next()-1)
	}
	if r.Moved {
		w.failures = 0
	}
	if w.queue.Len() == 0 {
		w.timer = nil
	} else if r.Moved {
		w.timer = []int{now + w.wait.Wait}
	}
	return api.OK
}

func (w *words) tick(now int) bool {
	if len(w.timer) == 0 || w.timer[0] > near(now) {
		return false
	}
	w.timer, w.skipped = nil, nil
	w.queue.Timeout()
	w.window = window.Timeout(w.window)
	w.wait = rto.Back(w.wait)
	w.failures++
	return true
}

func (w *words) tell(now int) []api.Chunk {
	now = near(now)
	w.queue.Expire(now)
	var told []api.Chunk
	if w.owed {
		told = append(told, api.Chunk{Kind: 3, A: w.set.Cum(), B: uint32(65536 - w.join.Held()), Blocks: w.set.Blocks(), Dups: w.set.Dups()})
		w.owed = false
	}
	begins := false
	if n, skips, there := w.queue.Forward(); there && !slices.Equal(w.skipped, []uint32{n}) {
		if len(skips) > 64 {
			skips = skips[:64]
		}
		told = append(told, api.Chunk{Kind: 192, A: n, Skips: skips})
		w.skipped, begins = []uint32{n}, true
	}
	flying := w.queue.Flying()
	peer := w.room - flying
	if peer < 0 {
		peer = 0
	}
	l := w.queue.Take(now, window.Room(w.window, flying, peer))
	begins = begins || len(l) > 0 || w.queue.Flying() > 0
	if begins && len(w.timer) == 0 {
		w.timer = []int{now + w.wait.Wait}
	}
	return append(told, l...)
}

func (w *words) restart(stream uint16, in bool) {
	if in {
		w.join.Reset(stream)
	} else if _, there := w.next[stream]; there {
		w.next[stream] = 0
	}
}

// pair is an End, and beside it what the words make of the same calls. After each call the two are held against each other. What is handed in and what was told is turned behind each call, so that nobody may go on by it.
type pair struct {
	t     *testing.T
	end   *xfer.End
	words *words
}

// config is the usual one: pieces have 100 octets, and three of them fly at first.
func config() xfer.Config {
	return xfer.Config{First: 100, PeerFirst: 7, Room: 65536, Out: 2, In: 2, Mtu: 128}
}

func start(t *testing.T, c xfer.Config) *pair {
	t.Helper()
	p := &pair{t, xfer.New(c), newWords(c)}
	p.same()
	return p
}

// usual is a pair of the usual config.
func usual(t *testing.T) *pair {
	t.Helper()
	return start(t, config())
}

// same asks that the End has what the words have, by every call that changes nothing.
func (p *pair) same() {
	p.t.Helper()
	x, w := p.end, p.words
	at, runs := 0, len(w.timer) > 0
	if runs {
		at = w.timer[0]
	}
	if gotAt, gotRuns := x.Due(); gotAt != at || gotRuns != runs {
		p.t.Fatalf("Due is %d, %v, want %d, %v", gotAt, gotRuns, at, runs)
	}
	if got, want := x.Idle(), w.queue.Len() == 0 && !w.owed; got != want {
		p.t.Fatalf("Idle is %v, want %v", got, want)
	}
	if x.Failures() != w.failures || x.Cum() != w.set.Cum() || x.Next() != w.queue.Next() {
		p.t.Fatalf("Failures is %d, Cum %d, Next %d, want %d, %d, %d", x.Failures(), x.Cum(), x.Next(), w.failures, w.set.Cum(), w.queue.Next())
	}
}

// sends sends a message, whatever is answered.
func (p *pair) sends(m api.Message, life, tries, now int) api.Errno {
	p.t.Helper()
	handed := copiedMessage(m)
	want := p.words.send(copiedMessage(m), life, tries, now)
	if got := p.end.Send(handed, life, tries, now); got != want {
		p.t.Fatalf("Send of %d octets on %d is %v, want %v", len(m.Data), m.Stream, got, want)
	}
	if !reflect.DeepEqual(handed, copiedMessage(m)) {
		p.t.Fatalf("Send has changed %v to %v", m, handed)
	}
	turn(handed.Data)
	p.same()
	return want
}

// send sends messages that are taken, and not given up, at 0.
func (p *pair) send(l ...api.Message) {
	p.t.Helper()
	for _, m := range l {
		p.sendFor(m, always, always, 0)
	}
}

// sendFor sends a message that is taken.
func (p *pair) sendFor(m api.Message, life, tries, now int) {
	p.t.Helper()
	if got := p.sends(m, life, tries, now); got != api.OK {
		p.t.Fatalf("Send of %d octets on %d is %v", len(m.Data), m.Stream, got)
	}
}

// refuses sends a message that is not taken, and asks that nothing is kept of it.
func (p *pair) refuses(want api.Errno, m api.Message) {
	p.t.Helper()
	next := p.end.Next()
	if got := p.sends(m, always, always, 0); got != want {
		p.t.Errorf("Send of %d octets on %d is %v, want %v", len(m.Data), m.Stream, got, want)
	}
	if p.end.Next() != next {
		p.t.Errorf("behind an error Next is %d, it was %d", p.end.Next(), next)
	}
}

// hears hands in a chunk, whatever is answered.
func (p *pair) hears(c api.Chunk, now int) api.Errno {
	p.t.Helper()
	handed := copied(c)
	want := p.words.hear(copied(c), now)
	if got := p.end.Hear(handed, now); got != want {
		p.t.Fatalf("Hear(%v) is %v, want %v", c, got, want)
	}
	if !reflect.DeepEqual(handed, copied(c)) {
		p.t.Fatalf("Hear has changed %v to %v", c, handed)
	}
	turnAll([]api.Chunk{handed})
	p.same()
	return want
}

// hear hands in chunks that are taken.
func (p *pair) hear(now int, l ...api.Chunk) {
	p.t.Helper()
	for _, c := range l {
		if got := p.hears(c, now); got != api.OK {
			p.t.Fatalf("Hear(%v) is %v", c, got)
		}
	}
}

// wrong hands in a chunk that is not taken.
func (p *pair) wrong(want api.Errno, c api.Chunk) {
	p.t.Helper()
	if got := p.hears(c, 0); got != want {
		p.t.Errorf("Hear(%v) is %v, want %v", c, got, want)
	}
}

// ticks asks for what the words tell.
func (p *pair) ticks(now int) bool {
	p.t.Helper()
	want := p.words.tick(now)
	if got := p.end.Tick(now); got != want {
		p.t.Fatalf("Tick(%d) is %v, want %v", now, got, want)
	}
	p.same()
	return want
}

// tick asks for an answer.
func (p *pair) tick(now int, want bool) {
	p.t.Helper()
	if got := p.ticks(now); got != want {
		p.t.Fatalf("Tick(%d) is %v, want %v", now, got, want)
	}
}

// tell asks for what the words tell.
func (p *pair) tell(now int) []api.Chunk {
	p.t.Helper()
	want := p.words.tell(now)
	got := p.end.Tell(now)
	if !sameChunks(got, want) {
		p.t.Fatalf("Tell(%d) is %v, want %v", now, got, want)
	}
	turnAll(got)
	p.same()
	return want
}

// tells asks for chunks.
func (p *pair) tells(now int, want ...api.Chunk) {
	p.t.Helper()
	if got := p.tell(now); !sameChunks(got, want) {
		p.t.Fatalf("Tell(%d) is %v, want %v", now, got, want)
	}
}

// flies asks for Data of these numbers, and nothing else.
func (p *pair) flies(now int, want ...uint32) {
	p.t.Helper()
	var got []uint32
	for _, c := range p.tell(now) {
		if c.Kind != api.Data {
			p.t.Fatalf("Tell(%d) has %v", now, c)
		}
		got = append(got, c.A)
	}
	if !slices.Equal(got, want) {
		p.t.Fatalf("Tell(%d) has the numbers %v, want %v", now, got, want)
	}
}

// messages asks for what the words tell.
func (p *pair) messages() []api.Message {
	p.t.Helper()
	got, want := p.end.Messages(), p.words.join.Take()
	if !sameMessages(got, want) {
		p.t.Fatalf("Messages is %v, want %v", got, want)
	}
	for i := range got {
		turn(got[i].Data)
		got[i] = api.Message{}
	}
	p.same()
	return want
}

// has asks for messages, and that there are no more then.
func (p *pair) has(want ...api.Message) {
	p.t.Helper()
	if got := p.messages(); !sameMessages(got, want) {
		p.t.Fatalf("Messages is %v, want %v", got, want)
	}
	if got := p.end.Messages(); len(got) != 0 {
		p.t.Fatalf("Messages is %v, asked again", got)
	}
}

func (p *pair) restart(stream uint16, in bool) {
	p.t.Helper()
	p.words.restart(stream, in)
	p.end.Restart(stream, in)
	p.same()
}

// due asks that the timer runs to a time.
func (p *pair) due(want int) {
	p.t.Helper()
	if at, runs := p.end.Due(); at != want || !runs {
		p.t.Fatalf("Due is %d, %v, want %d, true", at, runs, want)
	}
}

// stands asks that the timer stands.
func (p *pair) stands() {
	p.t.Helper()
	if at, runs := p.end.Due(); at != 0 || runs {
		p.t.Fatalf("Due is %d, %v, want 0, false", at, runs)
	}
}

// idle asks whether nothing is left to be done.
func (p *pair) idle(want bool) {
	p.t.Helper()
	if got := p.end.Idle(); got != want {
		p.t.Fatalf("Idle is %v, want %v", got, want)
	}
}

// failed asks how many times it failed in a row.
func (p *pair) failed(want int) {
	p.t.Helper()
	if got := p.end.Failures(); got != want {
		p.t.Fatalf("Failures is %d, want %d", got, want)
	}
}

// cum asks for the floor.
func (p *pair) cum(want uint32) {
	p.t.Helper()
	if got := p.end.Cum(); got != want {
		p.t.Fatalf("Cum is %d, want %d", got, want)
	}
}

// text is a message in order of so many octets.
func text(stream uint16, n int) api.Message {
	m := api.Message{Stream: stream, Ppid: 51, Data: make([]byte, n)}
	for i := range m.Data {
		m.Data[i] = byte(7*i + n)
	}
	return m
}

// textOf is a message in order of these octets.
func textOf(stream uint16, data ...byte) api.Message {
	return api.Message{Stream: stream, Ppid: 51, Data: data}
}

// texts are messages in order on the stream 0, of so many octets each.
func texts(octets ...int) []api.Message {
	var l []api.Message
	for _, n := range octets {
		l = append(l, text(0, n))
	}
	return l
}

// freely is a message without order.
func freely(stream uint16, n int) api.Message {
	m := text(stream, n)
	m.Unordered = true
	return m
}

// flight is a message as one chunk.
func flight(n uint32, number uint16, m api.Message) api.Chunk {
	c := api.Chunk{Kind: 0, Flags: alone, A: n, Out: m.Stream, In: number, Ppid: m.Ppid, Data: m.Data}
	if m.Unordered {
		c.Flags, c.In = alone|loose, 0
	}
	return c
}

// piece is a chunk of Data.
func piece(n uint32, stream, number uint16, flags uint8, data ...byte) api.Chunk {
	return api.Chunk{Kind: 0, Flags: flags, A: n, Out: stream, In: number, Ppid: 51, Data: data}
}

// sack is an answer.
func sack(floor, room uint32, blocks ...api.Block) api.Chunk {
	return api.Chunk{Kind: 3, A: floor, B: room, Blocks: blocks}
}

// twice is an answer that has Dups.
func twice(c api.Chunk, dups ...uint32) api.Chunk {
	c.Dups = dups
	return c
}

// forward tells to skip.
func forward(n uint32, skips ...api.Skip) api.Chunk {
	return api.Chunk{Kind: 192, A: n, Skips: skips}
}

// block is a run of heights.
func block(from, to uint16) api.Block { return api.Block{From: from, To: to} }

// hop is what is skipped of a stream.
func hop(stream, number uint16) api.Skip { return api.Skip{Stream: stream, Ssn: number} }

// full is a chunk that has all fields.
func full(kind uint8) api.Chunk {
	return api.Chunk{Kind: kind, Flags: alone, A: 5, B: 6, Out: 1, In: 0, Ppid: 9, Blocks: []api.Block{block(1, 2)}, Dups: []uint32{3}, Skips: []api.Skip{hop(1, 1)}, Params: []api.Param{{Kind: 7, V: []byte{1, 2}}}, Data: []byte{4, 5}}
}

// copied is a chunk in memory of its own.
func copied(c api.Chunk) api.Chunk {
	c.Blocks, c.Dups, c.Skips, c.Params, c.Data = slices.Clone(c.Blocks), slices.Clone(c.Dups), slices.Clone(c.Skips), slices.Clone(c.Params), slices.Clone(c.Data)
	for i := range c.Params {
		c.Params[i].V = slices.Clone(c.Params[i].V)
	}
	return c
}

func copiedAll(l []api.Chunk) []api.Chunk {
	l = slices.Clone(l)
	for i := range l {
		l[i] = copied(l[i])
	}
	return l
}

func copiedMessage(m api.Message) api.Message {
	m.Data = slices.Clone(m.Data)
	return m
}

// sameChunks holds chunks against each other; a list without elements may be nil or not.
func sameChunks(a, b []api.Chunk) bool {
	return slices.EqualFunc(a, b, func(x, y api.Chunk) bool {
		lists := slices.Equal(x.Blocks, y.Blocks) && slices.Equal(x.Dups, y.Dups) && slices.Equal(x.Skips, y.Skips) && slices.Equal(x.Data, y.Data)
		x.Blocks, x.Dups, x.Skips, x.Data = nil, nil, nil, nil
		y.Blocks, y.Dups, y.Skips, y.Data = nil, nil, nil, nil
		return lists && reflect.DeepEqual(x, y)
	})
}

func sameMessages(a, b []api.Message) bool {
	return slices.EqualFunc(a, b, func(x, y api.Message) bool { return reflect.DeepEqual(x, y) })
}

// turn turns all octets, and those that stand behind them in the same memory.
func turn(v []byte) {
	v = v[:cap(v)]
	for i := range v {
		v[i] ^= 255
	}
}

// turnAll turns all that chunks have, and the chunks.
func turnAll(l []api.Chunk) {
	for i, c := range l {
		turn(c.Data)
		for _, param := range c.Params {
			turn(param.V)
		}
		clear(c.Blocks[:cap(c.Blocks)])
		clear(c.Dups[:cap(c.Dups)])
		clear(c.Skips[:cap(c.Skips)])
		clear(c.Params)
		l[i] = api.Chunk{Kind: 99}
	}
}

// firsts are numbers to begin from: near 0, near 2^31 and near 2^32, so that what stands behind or ahead of them goes round, and some ordinary ones.
var firsts = []uint32{0, 1, 2, 5, 1000, 65535, 65536, 12345678, half - 1025, half - 3, half - 2, half - 1, half, half + 1, half + 2, 3000000000, top - 1025, top - 1024, top - 1023, top - 3, top - 2, top - 1, top}
