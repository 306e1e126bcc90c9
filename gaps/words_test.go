package gaps_test

import (
	"math/rand"
	"slices"
	"testing"

	"bollard/api"
	"bollard/gaps"
)

const (
	round = int64(1) << 32
	half  = uint32(1) << 31
	top   = ^uint32(0)
)

// words says the chapter's words plainly, by places on a line that does not go round: a number is what is left of a place at 2^32.
type words struct {
	floor int64
	there map[int64]bool
	twice []uint32
}

// left is what is left of a place at 2^32.
func left(place int64) int64 { return (place%round + round) % round }

func newWords(first uint32) *words {
	return &words{floor: int64(first) - 1, there: map[int64]bool{}}
}

func (w *words) cum() uint32 { return uint32(left(w.floor)) }

func (w *words) height(n uint32) int64 { return left(int64(n) - w.floor) }

func (w *words) below(n uint32) bool { return w.height(n) == 0 || w.height(n) >= int64(half) }

// at tells whether what stands at a height was added.
func (w *words) at(height int64) bool { return w.there[w.floor+height] }

func (w *words) has(n uint32) bool { return w.below(n) || w.at(w.height(n)) }

func (w *words) add(n uint32) int {
	if w.has(n) {
		w.twice = append(w.twice, n)
		return gaps.Twice
	}
	if w.height(n) > 1024 {
		return gaps.Far
	}
	w.there[w.floor+w.height(n)] = true
	w.rise()
	return gaps.Fresh
}

func (w *words) forward(n uint32) {
	if w.below(n) {
		return
	}
	w.floor += w.height(n)
	for place := range w.there {
		if place <= w.floor {
			delete(w.there, place)
		}
	}
	w.rise()
}

func (w *words) rise() {
	for w.at(1) {
		w.floor++
		delete(w.there, w.floor)
	}
}

func (w *words) blocks() []api.Block {
	var all []api.Block
	for from := int64(1); from <= 1024; from++ {
		if !w.at(from) || w.at(from-1) {
			continue
		}
		to := from
		for w.at(to + 1) {
			to++
		}
		all = append(all, api.Block{From: uint16(from), To: uint16(to)})
	}
	return all[:min(len(all), 64)]
}

func (w *words) dups() []uint32 {
	told := w.twice
	w.twice = nil
	return told[:min(len(told), 64)]
}

// pair is a set, and beside it what the words make of the same calls. After each call the two are held against each other.
type pair struct {
	t     *testing.T
	set   *gaps.Set
	words *words
}

func start(t *testing.T, first uint32) *pair {
	p := &pair{t, gaps.New(first), newWords(first)}
	p.same()
	return p
}

// over is a pair whose floor is told, and that has the numbers of these heights, which do not let the floor go up.
func over(t *testing.T, floor uint32, heights ...uint32) *pair {
	t.Helper()
	p := start(t, floor+1)
	for _, h := range heights {
		p.fresh(floor + h)
	}
	p.cum(floor)
	return p
}

// same asks that the set has what the words have, by every call that changes nothing.
func (p *pair) same() {
	p.t.Helper()
	s, w := p.set, p.words
	if s.Cum() != w.cum() || s.Len() != len(w.there) {
		p.t.Fatalf("Cum is %d, Len %d, want %d, %d", s.Cum(), s.Len(), w.cum(), len(w.there))
	}
	if got, want := s.Blocks(), w.blocks(); !slices.Equal(got, want) {
		p.t.Fatalf("over %d: Blocks is %v, want %v", w.cum(), got, want)
	}
	for _, h := range heights {
		p.has(w.cum() + h)
	}
}

// has asks whether the set has a number when the words do.
func (p *pair) has(n uint32) {
	p.t.Helper()
	if got, want := p.set.Has(n), p.words.has(n); got != want {
		p.t.Fatalf("over %d: Has(%d) is %v, want %v", p.words.cum(), n, got, want)
	}
}

// hasAll asks that of all heights up to some above the farthest one the set has just these.
func (p *pair) hasAll(wanted ...uint32) {
	p.t.Helper()
	floor := p.set.Cum()
	for h := uint32(1); h < 1100; h++ {
		if got, want := p.set.Has(floor+h), slices.Contains(wanted, h); got != want {
			p.t.Fatalf("over %d: Has at the height %d is %v, want %v", floor, h, got, want)
		}
	}
	p.length(len(wanted))
}

func (p *pair) cum(want uint32) {
	p.t.Helper()
	if got := p.set.Cum(); got != want {
		p.t.Errorf("Cum is %d, want %d", got, want)
	}
}

func (p *pair) length(want int) {
	p.t.Helper()
	if got := p.set.Len(); got != want {
		p.t.Errorf("over %d: Len is %d, want %d", p.set.Cum(), got, want)
	}
}

// blocks asks for runs, each told by two heights.
func (p *pair) blocks(want ...[2]uint16) {
	p.t.Helper()
	got := p.set.Blocks()
	if len(got) != len(want) {
		p.t.Fatalf("over %d: Blocks is %v, want %v", p.set.Cum(), got, want)
	}
	for i, b := range got {
		if b.From != want[i][0] || b.To != want[i][1] {
			p.t.Errorf("over %d: Blocks is %v, want %v", p.set.Cum(), got, want)
		}
	}
}

// dups asks for the numbers that were told twice, and that they are forgotten then.
func (p *pair) dups(want ...uint32) {
	p.t.Helper()
	if got := p.words.dups(); !slices.Equal(got, want) {
		p.t.Errorf("the words tell Dups %v, want %v", got, want)
	}
	if got := p.set.Dups(); !slices.Equal(got, want) {
		p.t.Errorf("Dups is %v, want %v", got, want)
	}
	if got := p.set.Dups(); len(got) != 0 {
		p.t.Errorf("Dups is %v, asked again", got)
	}
	p.same()
}

// sameDups asks for what the words tell.
func (p *pair) sameDups() {
	p.t.Helper()
	p.dups(p.words.twice[:min(len(p.words.twice), 64)]...)
}

func (p *pair) add(n uint32, want int) {
	p.t.Helper()
	floor := p.words.cum()
	if got := p.words.add(n); got != want {
		p.t.Errorf("over %d: the words tell %d of Add(%d), want %d", floor, got, n, want)
	}
	if got := p.set.Add(n); got != want {
		p.t.Errorf("over %d: Add(%d) is %d, want %d", floor, n, got, want)
	}
	p.same()
	p.has(n)
}

func (p *pair) fresh(n uint32) { p.t.Helper(); p.add(n, gaps.Fresh) }

func (p *pair) again(n uint32) { p.t.Helper(); p.add(n, gaps.Twice) }

func (p *pair) far(n uint32) { p.t.Helper(); p.add(n, gaps.Far) }

// asWords adds a number, whatever is answered.
func (p *pair) asWords(n uint32) int {
	p.t.Helper()
	want := p.words.add(n)
	if got := p.set.Add(n); got != want {
		p.t.Fatalf("now over %d: Add(%d) is %d, want %d", p.words.cum(), n, got, want)
	}
	p.same()
	return want
}

func (p *pair) forward(n uint32) {
	p.t.Helper()
	p.words.forward(n)
	p.set.Forward(n)
	p.same()
	p.has(n)
}

// heights are those at which something begins or ends, and such as go round at 2^16.
var heights = []uint32{0, 1, 2, 3, 4, 5, 63, 64, 65, 512, 1022, 1023, 1024, 1025, 1026, 2048, 65535, 65536, 65538, 1 << 20, half - 2, half - 1, half, half + 1, half + 2, top - 1025, top - 1024, top - 1023, top - 65536, top - 2, top - 1, top}

// floors are near 0, near 2^31 and near 2^32, so that what is above or below them goes round, and some ordinary ones.
var floors = []uint32{0, 1, 2, 3, 1000, 1024, 65535, 65536, 12345678, half - 1025, half - 1024, half - 1023, half - 3, half - 2, half - 1, half, half + 1, half + 2, 3000000000, top - 1025, top - 1024, top - 1023, top - 512, top - 3, top - 2, top - 1, top}

// firsts are numbers to begin from: behind each floor, and such as are drawn from a fixed seed.
func firsts() []uint32 {
	draw := rand.New(rand.NewSource(10))
	var out []uint32
	for _, f := range floors {
		out = append(out, f+1)
	}
	for range 30 {
		out = append(out, draw.Uint32())
	}
	return out
}

// rising are the heights from one on up to another one, by steps.
func rising(from, to, step uint32) []uint32 {
	var out []uint32
	for h := from; h <= to; h += step {
		out = append(out, h)
	}
	return out
}
