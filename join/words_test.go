package join_test

import (
	"reflect"
	"slices"
	"testing"

	"bollard/api"
	"bollard/join"
)

const (
	half     = uint32(1) << 31
	top      = ^uint32(0)
	greatest = int(^uint(0) >> 1)
	least    = -greatest - 1
	topShort = ^uint16(0)
	ppid     = 51
)

// The flags of a chunk.
const (
	end   = 1
	begin = 2
	alone = begin | end
	loose = 4
)

// words says the chapter's words plainly, by lists that are gone through.
type words struct {
	streams int
	pieces  []api.Chunk
	waiting []numbered
	ready   []api.Message
	next    [64]uint16
}

// numbered is a message that is whole, but not next.
type numbered struct {
	message api.Message
	number  uint16
}

// less compares numbers that go round.
func less(a, b, round int64) bool {
	steps := ((b-a)%round + round) % round
	return 1 <= steps && steps <= round/2-1
}

func less16(a, b uint16) bool { return less(int64(a), int64(b), 1<<16) }

func less32(a, b uint32) bool { return less(int64(a), int64(b), 1<<32) }

// follows says P13.2 plainly, of chunks of the Kind Data.
func follows(a, b api.Chunk) bool {
	return uint32(a.A+1) == b.A && a.Out == b.Out && a.In == b.In && a.Ppid == b.Ppid && a.Flags/4%2 == b.Flags/4%2 && a.Flags%2 == 0 && b.Flags/2%2 == 0
}

func (w *words) held() int {
	sum := 0
	for _, c := range w.pieces {
		sum += len(c.Data)
	}
	for _, x := range w.waiting {
		sum += len(x.message.Data)
	}
	for _, m := range w.ready {
		sum += len(m.Data)
	}
	return sum
}

func (w *words) add(c api.Chunk) api.Errno {
	switch {
	case c.Kind != api.Data || len(c.Data) == 0:
		return api.ErrArg
	case int(c.Out) >= w.streams:
		return api.ErrName
	case slices.ContainsFunc(w.pieces, func(x api.Chunk) bool { return x.A == c.A }):
		return api.ErrState
	case w.held()+len(c.Data) > 65536:
		return api.ErrFull
	}
	w.pieces = append(w.pieces, copied(c))
	run := w.run(c)
	if run[0].Flags/2%2 == 0 || run[len(run)-1].Flags%2 == 0 {
		return api.OK
	}
	m := api.Message{Stream: c.Out, Unordered: c.Flags/4%2 == 1, Ppid: c.Ppid}
	for _, x := range run {
		m.Data = append(m.Data, x.Data...)
		w.pieces = slices.DeleteFunc(w.pieces, func(y api.Chunk) bool { return x.A == y.A })
	}
	w.whole(m, c.In)
	return api.OK
}

// run are the chunks that a chunk stands among, each following the one ahead.
func (w *words) run(c api.Chunk) []api.Chunk {
	run := []api.Chunk{c}
	for before := 0; before < len(run); {
		before = len(run)
		for _, x := range w.pieces {
			if follows(run[len(run)-1], x) {
				run = append(run, x)
			} else if follows(x, run[0]) {
				run = slices.Insert(run, 0, x)
			}
		}
	}
	return run
}

func (w *words) whole(m api.Message, number uint16) {
	switch {
	case m.Unordered:
		w.ready = append(w.ready, m)
	case less16(number, w.next[m.Stream]) || w.waits(m.Stream, number) >= 0:
	default:
		w.waiting = append(w.waiting, numbered{m, number})
		w.tell(m.Stream)
	}
}

// waits is the place of the message of a stream and number that waits, or -1.
func (w *words) waits(stream, number uint16) int {
	return slices.IndexFunc(w.waiting, func(x numbered) bool { return x.message.Stream == stream && x.number == number })
}

func (w *words) release(stream, number uint16) bool {
	i := w.waits(stream, number)
	if i < 0 {
		return false
	}
	w.ready = append(w.ready, w.waiting[i].message)
	w.waiting = slices.Delete(w.waiting, i, i+1)
	return true
}

func (w *words) tell(stream uint16) {
	for w.release(stream, w.next[stream]) {
		w.next[stream]++
	}
}

func (w *words) forward(n uint32, skips []api.Skip) {
	w.pieces = slices.DeleteFunc(w.pieces, func(c api.Chunk) bool { return c.A == n || less32(c.A, n) })
	for _, k := range skips {
		if int(k.Stream) >= w.streams || less16(k.Ssn, w.next[k.Stream]) {
			continue
		}
		for number := w.next[k.Stream]; number != k.Ssn+1; number++ {
			w.release(k.Stream, number)
		}
		w.next[k.Stream] = k.Ssn + 1
		w.tell(k.Stream)
	}
}

func (w *words) reset(stream uint16) {
	if int(stream) < w.streams {
		w.waiting = slices.DeleteFunc(w.waiting, func(x numbered) bool { return x.message.Stream == stream })
		w.next[stream] = 0
	}
}

func (w *words) take() []api.Message {
	told := w.ready
	w.ready = nil
	return told
}

// pair is a Join, and beside it what the words make of the same calls. What is handed in and what was told is turned behind each call, so that nobody may go on by it.
type pair struct {
	t     *testing.T
	join  *join.Join
	words *words
}

func start(t *testing.T, streams int) *pair {
	return &pair{t, join.New(streams), &words{streams: streams}}
}

// copied is a chunk in memory of its own.
func copied(c api.Chunk) api.Chunk {
	c.Blocks, c.Dups, c.Skips, c.Params, c.Data = slices.Clone(c.Blocks), slices.Clone(c.Dups), slices.Clone(c.Skips), slices.Clone(c.Params), slices.Clone(c.Data)
	return c
}

// turn turns all octets, and those that stand behind them in the same memory.
func turn(v []byte) {
	v = v[:cap(v)]
	for i := range v {
		v[i] ^= 255
	}
}

// hand hands in a chunk, and asks that it is not changed.
func (p *pair) hand(c api.Chunk) api.Errno {
	p.t.Helper()
	handed := copied(c)
	err := p.join.Add(handed)
	if !reflect.DeepEqual(handed, copied(c)) {
		p.t.Fatalf("Add has changed %v to %v", c, handed)
	}
	turn(handed.Data)
	return err
}

// held asks for as many octets as the words have.
func (p *pair) held() {
	p.t.Helper()
	if got, want := p.join.Held(), p.words.held(); got != want {
		p.t.Fatalf("Held is %d, want %d", got, want)
	}
}

func (p *pair) holds(want int) {
	p.t.Helper()
	if got := p.join.Held(); got != want {
		p.t.Errorf("Held is %d, want %d", got, want)
	}
}

// add adds chunks, whatever is answered.
func (p *pair) add(l ...api.Chunk) {
	p.t.Helper()
	for _, c := range l {
		want := p.words.add(c)
		if got := p.hand(c); got != want {
			p.t.Fatalf("Add(%v) is %v, want %v", c, got, want)
		}
		p.held()
	}
}

// ok adds chunks that are taken.
func (p *pair) ok(l ...api.Chunk) {
	p.t.Helper()
	for _, c := range l {
		want := p.words.add(c)
		if got := p.hand(c); got != api.OK || want != api.OK {
			p.t.Fatalf("Add(%v) is %v, and by the words %v", c, got, want)
		}
		p.held()
	}
}

// refused adds a chunk that is not taken. The words are not told of it: what comes later shows that nothing came of it.
func (p *pair) refused(want api.Errno, c api.Chunk) {
	p.t.Helper()
	if got := p.hand(c); got != want {
		p.t.Errorf("Add(%v) is %v, want %v", c, got, want)
	}
	p.held()
}

func (p *pair) forward(n uint32, skips ...api.Skip) {
	p.t.Helper()
	handed := slices.Clone(skips)
	p.words.forward(n, skips)
	p.join.Forward(n, handed)
	if !slices.Equal(handed, skips) {
		p.t.Fatalf("Forward has changed %v to %v", skips, handed)
	}
	for i := range handed {
		handed[i] = api.Skip{Stream: 77, Ssn: 78}
	}
	p.held()
}

func (p *pair) reset(stream uint16) {
	p.t.Helper()
	p.words.reset(stream)
	p.join.Reset(stream)
	p.held()
}

// take asks for what the words tell.
func (p *pair) take() []api.Message {
	p.t.Helper()
	got, want := p.join.Take(), p.words.take()
	if !sameMessages(got, want) {
		p.t.Fatalf("Take is %v, want %v", got, want)
	}
	p.held()
	for i := range got {
		turn(got[i].Data)
		got[i] = api.Message{}
	}
	return want
}

// takes asks for messages, and that there is nothing more then.
func (p *pair) takes(want ...api.Message) {
	p.t.Helper()
	if got := p.take(); !sameMessages(got, want) {
		p.t.Fatalf("Take is %v, want %v", got, want)
	}
	if got := p.join.Take(); len(got) != 0 {
		p.t.Fatalf("Take is %v, asked again", got)
	}
	p.held()
}

func sameMessages(a, b []api.Message) bool {
	return slices.EqualFunc(a, b, func(x, y api.Message) bool { return reflect.DeepEqual(x, y) })
}

// piece is a chunk of a message.
func piece(tsn uint32, stream, number uint16, flags uint8, data ...byte) api.Chunk {
	return api.Chunk{Kind: api.Data, Flags: flags, A: tsn, Out: stream, In: number, Ppid: ppid, Data: data}
}

// single is a chunk with a whole message.
func single(tsn uint32, stream, number uint16, data ...byte) api.Chunk {
	return piece(tsn, stream, number, alone, data...)
}

// text is a message in order.
func text(stream uint16, data ...byte) api.Message {
	return api.Message{Stream: stream, Ppid: ppid, Data: data}
}

// freely is a message without order.
func freely(stream uint16, data ...byte) api.Message {
	return api.Message{Stream: stream, Unordered: true, Ppid: ppid, Data: data}
}

// to brings streams of a Join that holds nothing to a next number.
func (p *pair) to(next uint16, streams ...uint16) {
	p.t.Helper()
	for _, s := range streams {
		p.reset(s)
		if next > half16 {
			p.forward(0, api.Skip{Stream: s, Ssn: half16 - 1})
		}
		if next > 0 {
			p.forward(0, api.Skip{Stream: s, Ssn: next - 1})
		}
		if p.words.next[s] != next {
			p.t.Fatalf("the next number of %d is %d, want %d", s, p.words.next[s], next)
		}
	}
}

const half16 = uint16(1) << 15

// numbers are near 0, near 2^31 and near 2^32, so that what stands behind or ahead of them goes round, and some ordinary ones.
var numbers = []uint32{0, 1, 2, 9, 1000, 65535, 65536, 12345678, half - 3, half - 2, half - 1, half, half + 1, half + 2, 3000000000, top - 65536, top - 3, top - 2, top - 1, top}

// shorts are likewise numbers of messages.
var shorts = []uint16{0, 1, 2, 9, 255, 256, half16 - 2, half16 - 1, half16, half16 + 1, 40000, topShort - 3, topShort - 2, topShort - 1, topShort}
