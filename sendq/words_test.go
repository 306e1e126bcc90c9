package sendq_test

import (
	"math/rand"
	"reflect"
	"slices"
	"strings"
	"testing"

	"bollard/api"
	"bollard/sendq"
)

const (
	round    = int64(1) << 32
	half     = uint32(1) << 31
	top      = ^uint32(0)
	greatest = int(^uint(0) >> 1)
	least    = -greatest - 1
)

// The flags of a chunk.
const (
	end   = 1
	begin = 2
	alone = begin | end
	loose = 4
)

// letters are the states' in the order of their numbers.
const letters = "WFLCG"

// words says the chapter's words plainly, by places on a line that does not go round: a number is what is left of a place at 2^32.
type words struct {
	records []record
	next    int64
	pushed  int
}

// record is an entry.
type record struct {
	chunk        api.Chunk
	place        int64
	message      int
	until, tries int
	state        byte
	sent         []int // all times at which it was sent
	missed       int
}

// left is what is left of a place at 2^32.
func left(place int64) uint32 { return uint32((place%round + round) % round) }

func (w *words) floor() int64 {
	if len(w.records) > 0 {
		return w.records[0].place - 1
	}
	return w.next - 1
}

func (w *words) push(l []api.Chunk, until, tries int) api.Errno {
	if len(l) == 0 {
		return api.ErrArg
	}
	for _, c := range l {
		if c.Kind != 0 || len(c.Data) == 0 {
			return api.ErrArg
		}
	}
	if len(w.records)+len(l) > 1024 {
		return api.ErrFull
	}
	w.pushed++
	for _, c := range l {
		c = copied(c)
		c.A = left(w.next)
		w.records = append(w.records, record{chunk: c, place: w.next, message: w.pushed, until: until, tries: tries, state: 'W'})
		w.next++
	}
	return api.OK
}

func (w *words) take(now, room int) []api.Chunk {
	var told []api.Chunk
	octets := 0
	for _, state := range []byte("LW") {
		for i := range w.records {
			r := &w.records[i]
			if r.state != state {
				continue
			}
			if octets+len(r.chunk.Data) > room {
				return told
			}
			octets += len(r.chunk.Data)
			r.state, r.missed, r.sent = 'F', 0, append(r.sent, now)
			told = append(told, copied(r.chunk))
		}
	}
	return told
}

// reached are the places that an answer may tell: the floor, and those of entries up to which none waits.
func (w *words) reached() []int64 {
	places := []int64{w.floor()}
	for _, r := range w.records {
		if r.state == 'W' {
			break
		}
		places = append(places, r.place)
	}
	return places
}

func (w *words) ack(cum uint32, blocks []api.Block, now int) (sendq.Result, bool) {
	i := slices.IndexFunc(w.reached(), func(place int64) bool { return left(place) == cum })
	if i < 0 {
		return sendq.Result{}, false
	}
	result := sendq.Result{Sample: -1, Moved: i > 0}
	for _, r := range w.records[:i] {
		if r.state == 'C' || r.state == 'G' {
			continue
		}
		result.Bytes += len(r.chunk.Data)
		if len(r.sent) == 1 {
			result.Sample = now - r.sent[0]
		}
	}
	w.records = slices.Clone(w.records[i:])
	became := w.come(cum, blocks)
	for _, j := range became {
		result.Bytes += len(w.records[j].chunk.Data)
	}
	if len(became) > 0 {
		result.Loss = w.miss(became[len(became)-1])
	}
	return result, true
}

// come says the second step, and tells at which places of the list entries became Came.
func (w *words) come(cum uint32, blocks []api.Block) []int {
	var became []int
	for j := range w.records {
		r := &w.records[j]
		told := slices.ContainsFunc(blocks, func(b api.Block) bool {
			for height := int(b.From); height <= min(int(b.To), 1200); height++ {
				if left(int64(cum)+int64(height)) == r.chunk.A {
					return true
				}
			}
			return false
		})
		if told && (r.state == 'F' || r.state == 'L') {
			r.state = 'C'
			became = append(became, j)
		} else if !told && r.state == 'C' {
			r.state, r.missed = 'F', 0
		}
	}
	return became
}

// miss says the third step, of the entries ahead of a place of the list.
func (w *words) miss(ahead int) bool {
	loss := false
	for j := range w.records[:ahead] {
		if r := &w.records[j]; r.state == 'F' {
			r.missed++
			if r.missed == 3 {
				r.state, loss = 'L', true
			}
		}
	}
	return loss
}

func (w *words) timeout() int {
	n := 0
	for i := range w.records {
		if w.records[i].state == 'F' {
			w.records[i].state = 'L'
			n++
		}
	}
	return n
}

func (w *words) expire(now int) int {
	n := 0
	for message := 1; message <= w.pushed; message++ {
		open, late, often := false, false, false
		for _, r := range w.records {
			if r.message == message {
				open = open || r.state != 'C' && r.state != 'G'
				late = late || r.until >= 0 && r.until < now
				often = often || r.tries >= 0 && r.state == 'L' && len(r.sent) > r.tries
			}
		}
		if !open || !late && !often {
			continue
		}
		n++
		for i := range w.records {
			if w.records[i].message == message {
				w.records[i].state = 'G'
			}
		}
	}
	return n
}

func (w *words) forward() (uint32, []api.Skip, bool) {
	last := -1
	for i, r := range w.records {
		if r.state == 'G' {
			last = i
		} else if r.state != 'C' {
			break
		}
	}
	if last < 0 {
		return left(w.floor()), nil, false
	}
	var streams []uint16
	numbers := map[uint16]uint16{}
	for _, r := range w.records[:last+1] {
		if r.state == 'G' && r.chunk.Flags/4%2 == 0 {
			if !slices.Contains(streams, r.chunk.Out) {
				streams = append(streams, r.chunk.Out)
			}
			numbers[r.chunk.Out] = r.chunk.In
		}
	}
	var skips []api.Skip
	for _, s := range streams {
		skips = append(skips, api.Skip{Stream: s, Ssn: numbers[s]})
	}
	return left(w.records[last].place), skips, true
}

// octets are those of the entries in some states.
func (w *words) octets(states string) int {
	sum := 0
	for _, r := range w.records {
		if strings.IndexByte(states, r.state) >= 0 {
			sum += len(r.chunk.Data)
		}
	}
	return sum
}

// letters tells the states, in order.
func (w *words) letters() string {
	var text []byte
	for _, r := range w.records {
		text = append(text, r.state)
	}
	return string(text)
}

// pair is a Queue, and beside it what the words make of the same calls. After each call the two are held against each other. What is handed in and what was told is turned behind each call, so that nobody may go on by it.
type pair struct {
	t     *testing.T
	queue *sendq.Queue
	words *words
	floor int64 // at the last look
}

func start(t *testing.T, first uint32) *pair {
	t.Helper()
	p := &pair{t, sendq.New(first), &words{next: int64(first)}, int64(first) - 1}
	p.same()
	return p
}

// same asks that the Queue has what the words have, by every call that changes nothing.
func (p *pair) same() {
	p.t.Helper()
	q, w := p.queue, p.words
	if q.Floor() != left(w.floor()) || q.Next() != left(w.next) || q.Len() != len(w.records) {
		p.t.Fatalf("Floor is %d, Next %d, Len %d, want %d, %d, %d", q.Floor(), q.Next(), q.Len(), left(w.floor()), left(w.next), len(w.records))
	}
	if q.Flying() != w.octets("F") || q.Left() != w.octets("LW") {
		p.t.Fatalf("of %s Flying is %d, Left %d, want %d, %d", w.letters(), q.Flying(), q.Left(), w.octets("F"), w.octets("LW"))
	}
	for _, r := range w.records {
		if got, ok := q.State(r.chunk.A); !ok || got != strings.IndexByte(letters, r.state) {
			p.t.Fatalf("of %s State(%d) is %d, %v, want %c", w.letters(), r.chunk.A, got, ok, r.state)
		}
	}
	for _, n := range []uint32{left(w.floor()), left(w.next), left(w.floor()) - 1, left(w.next) + 1, left(w.floor()) + half, left(w.next) + half, left(w.next) + 65536, 0, half, top} {
		p.state(n)
	}
	p.sameForward()
	if w.floor() < p.floor {
		p.t.Fatalf("the floor went back from %d to %d", p.floor, w.floor())
	}
	p.floor = w.floor()
}

// state asks for what the words tell of a number.
func (p *pair) state(n uint32) {
	p.t.Helper()
	want, there := 0, false
	for _, r := range p.words.records {
		if r.chunk.A == n {
			want, there = strings.IndexByte(letters, r.state), true
		}
	}
	if got, ok := p.queue.State(n); got != want || ok != there {
		p.t.Fatalf("of %s above %d State(%d) is %d, %v, want %d, %v", p.words.letters(), p.queue.Floor(), n, got, ok, want, there)
	}
}

func (p *pair) sameForward() {
	p.t.Helper()
	want, skipped, there := p.words.forward()
	n, skips, ok := p.queue.Forward()
	if n != want || ok != there || !slices.Equal(skips, skipped) {
		p.t.Fatalf("of %s above %d Forward is %d, %v, %v, want %d, %v, %v", p.words.letters(), p.queue.Floor(), n, skips, ok, want, skipped, there)
	}
	for i := range skips {
		skips[i] = api.Skip{Stream: 77, Ssn: 78}
	}
}

// states asks for states, each told by its letter.
func (p *pair) states(want string) {
	p.t.Helper()
	if got := p.words.letters(); got != want {
		p.t.Fatalf("the words have the states %s, want %s", got, want)
	}
	p.same()
}

// pushes pushes a message, whatever is answered.
func (p *pair) pushes(until, tries int, l ...api.Chunk) api.Errno {
	p.t.Helper()
	handed := copiedAll(l)
	want := p.words.push(l, until, tries)
	if got := p.queue.Push(handed, until, tries); got != want {
		p.t.Fatalf("Push of %d chunks over %d is %v, want %v", len(l), len(p.words.records), got, want)
	}
	if !reflect.DeepEqual(handed, copiedAll(l)) {
		p.t.Fatalf("Push has changed %v to %v", l, handed)
	}
	turnAll(handed)
	p.same()
	return want
}

// push pushes a message that is taken.
func (p *pair) push(until, tries int, l ...api.Chunk) {
	p.t.Helper()
	if got := p.pushes(until, tries, l...); got != api.OK {
		p.t.Fatalf("Push is %v", got)
	}
}

// refused pushes a message that is not taken.
func (p *pair) refused(want api.Errno, l ...api.Chunk) {
	p.t.Helper()
	if got := p.pushes(-1, -1, l...); got != want {
		p.t.Errorf("Push is %v, want %v", got, want)
	}
}

// singles pushes messages of one chunk each of as many octets, which are not given up.
func (p *pair) singles(octets ...int) {
	p.t.Helper()
	for _, n := range octets {
		p.push(-1, -1, data(n))
	}
}

// tens pushes so many messages of ten octets.
func (p *pair) tens(count int) {
	p.t.Helper()
	p.singles(slices.Repeat([]int{10}, count)...)
}

// take asks for what the words tell.
func (p *pair) take(now, room int) []api.Chunk {
	p.t.Helper()
	before := p.words.letters()
	want := p.words.take(now, room)
	got := p.queue.Take(now, room)
	if !sameChunks(got, want) {
		p.t.Fatalf("of %s Take(%d, %d) is %v, want %v", before, now, room, got, want)
	}
	turnAll(got)
	p.same()
	return want
}

// takes asks for the chunks that stand so many steps above the floor.
func (p *pair) takes(now, room int, heights ...uint32) {
	p.t.Helper()
	floor := p.queue.Floor()
	var got []uint32
	for _, c := range p.take(now, room) {
		got = append(got, c.A-floor)
	}
	if !slices.Equal(got, heights) {
		p.t.Fatalf("Take(%d, %d) is at the heights %v, want %v", now, room, got, heights)
	}
}

// ack asks for what the words tell, of a number that stands so many steps above the floor.
func (p *pair) ack(height uint32, now int, blocks ...api.Block) (sendq.Result, bool) {
	p.t.Helper()
	cum, before, handed := p.queue.Floor()+height, p.words.letters(), slices.Clone(blocks)
	want, there := p.words.ack(cum, blocks, now)
	got, ok := p.queue.Ack(cum, handed, now)
	if got != want || ok != there {
		p.t.Fatalf("of %s above %d Ack(%d, %v, %d) is %v, %v, want %v, %v", before, p.floor, cum, blocks, now, got, ok, want, there)
	}
	if !slices.Equal(handed, blocks) {
		p.t.Fatalf("Ack has changed %v to %v", blocks, handed)
	}
	for i := range handed {
		handed[i] = api.Block{From: 1, To: 2}
	}
	p.same()
	return got, ok
}

// acks asks for a result.
func (p *pair) acks(want sendq.Result, height uint32, now int, blocks ...api.Block) {
	p.t.Helper()
	if got, ok := p.ack(height, now, blocks...); !ok || got != want {
		p.t.Fatalf("Ack at the height %d of %v is %v, %v, want %v", height, blocks, got, ok, want)
	}
}

// noAck asks for false, and that nothing changes.
func (p *pair) noAck(height uint32, blocks ...api.Block) {
	p.t.Helper()
	before := p.words.letters()
	if got, ok := p.ack(height, 1000, blocks...); ok || got != (sendq.Result{}) {
		p.t.Fatalf("of %s Ack at the height %d is %v, %v", before, height, got, ok)
	}
	p.states(before)
}

func (p *pair) timeout(want int) {
	p.t.Helper()
	before, told := p.words.letters(), p.words.timeout()
	if got := p.queue.Timeout(); got != want || told != want {
		p.t.Fatalf("of %s Timeout is %d, by the words %d, want %d", before, got, told, want)
	}
	p.same()
}

func (p *pair) expire(now, want int) {
	p.t.Helper()
	before, told := p.words.letters(), p.words.expire(now)
	if got := p.queue.Expire(now); got != want || told != want {
		p.t.Fatalf("of %s Expire(%d) is %d, by the words %d, want %d", before, now, got, told, want)
	}
	p.same()
}

// forwards asks for what is to be skipped up to a height.
func (p *pair) forwards(height uint32, want ...api.Skip) {
	p.t.Helper()
	n, skips, ok := p.queue.Forward()
	if n != p.queue.Floor()+height || !ok || !slices.Equal(skips, want) {
		p.t.Fatalf("of %s above %d Forward is %d, %v, %v, want the height %d, %v", p.words.letters(), p.floor, n, skips, ok, height, want)
	}
}

// noForward asks that nothing is to be skipped.
func (p *pair) noForward() {
	p.t.Helper()
	if n, skips, ok := p.queue.Forward(); n != p.queue.Floor() || len(skips) > 0 || ok {
		p.t.Fatalf("of %s above %d Forward is %d, %v, %v", p.words.letters(), p.floor, n, skips, ok)
	}
}

// data is a message of one chunk of so many octets.
func data(n int) api.Chunk { return piece(0, 0, alone, n) }

// piece is a chunk of Data of so many octets.
func piece(stream, number uint16, flags uint8, n int) api.Chunk {
	c := api.Chunk{Kind: api.Data, Flags: flags, Out: stream, In: number, Ppid: 51, Data: make([]byte, n)}
	for i := range c.Data {
		c.Data[i] = byte(i + n)
	}
	return c
}

// block is a run of heights.
func block(from, to uint16) api.Block { return api.Block{From: from, To: to} }

// hop is what is skipped of a stream.
func hop(stream, ssn uint16) api.Skip { return api.Skip{Stream: stream, Ssn: ssn} }

// copied is a chunk in memory of its own.
func copied(c api.Chunk) api.Chunk {
	c.Blocks, c.Dups, c.Skips, c.Params, c.Data = slices.Clone(c.Blocks), slices.Clone(c.Dups), slices.Clone(c.Skips), slices.Clone(c.Params), slices.Clone(c.Data)
	for i := range c.Params {
		c.Params[i].V = slices.Clone(c.Params[i].V)
	}
	return c
}

func copiedAll(l []api.Chunk) []api.Chunk {
	l = slices.Clone(l)
	for i := range l {
		l[i] = copied(l[i])
	}
	return l
}

func sameChunks(a, b []api.Chunk) bool {
	return slices.EqualFunc(a, b, func(x, y api.Chunk) bool { return reflect.DeepEqual(x, y) })
}

// turn turns all octets, and those that stand behind them in the same memory.
func turn(v []byte) {
	v = v[:cap(v)]
	for i := range v {
		v[i] ^= 255
	}
}

// turnAll turns all that chunks have, and the chunks.
func turnAll(l []api.Chunk) {
	for i, c := range l {
		turn(c.Data)
		for _, param := range c.Params {
			turn(param.V)
		}
		clear(c.Blocks)
		clear(c.Dups)
		clear(c.Skips)
		clear(c.Params)
		l[i] = api.Chunk{Kind: 99}
	}
}

// laid is a pair whose entries, of ten octets each, are messages by themselves in these states. What is not Waiting was sent once, at 100, but for Given ones behind the last one that was sent.
func laid(t *testing.T, first uint32, states string) *pair {
	t.Helper()
	p := start(t, first)
	var came, flying []api.Block
	for i, state := range []byte(states) {
		until, at := -1, block(uint16(i+1), uint16(i+1))
		switch state {
		case 'G':
			until = 5
		case 'C':
			came = append(came, at)
		case 'F':
			flying = append(flying, at)
		}
		p.push(until, -1, piece(uint16(i), uint16(100+i), alone, 10))
	}
	p.take(100, 10*(strings.LastIndexAny(states, "FLC")+1))
	p.ack(0, 100, slices.Concat(came, flying)...)
	p.words.timeout()
	p.queue.Timeout()
	p.ack(0, 100, came...)
	p.words.expire(6)
	p.queue.Expire(6)
	p.states(states)
	return p
}

// allStates are the rows of so many states that may be: no entry was sent that stands behind a Waiting one.
func allStates(count int) []string {
	if count == 0 {
		return []string{""}
	}
	var all []string
	for _, ahead := range allStates(count - 1) {
		for _, state := range letters {
			if !strings.Contains(ahead, "W") || state == 'W' || state == 'G' {
				all = append(all, ahead+string(state))
			}
		}
	}
	return all
}

// firsts are numbers to begin from: near 0, near 2^31 and near 2^32, so that what stands behind or ahead of them goes round, and some ordinary ones.
var firsts = []uint32{0, 1, 2, 5, 1000, 65534, 65535, 65536, 12345678, half - 1025, half - 3, half - 2, half - 1, half, half + 1, half + 2, 3000000000, top - 65536, top - 1024, top - 1023, top - 3, top - 2, top - 1, top}

// drawn are numbers from a fixed seed.
func drawn(seed int64, count int) []uint32 {
	draw := rand.New(rand.NewSource(seed))
	var l []uint32
	for range count {
		l = append(l, draw.Uint32())
	}
	return l
}
