package gaps_test

import (
	"math/rand"
	"slices"
	"testing"

	"bollard/api"
	"bollard/gaps"
)

// The chapter's example.
func TestExample(t *testing.T) {
	p := start(t, 10)
	p.fresh(12)
	p.fresh(13)
	p.fresh(10)
	p.cum(10)
	p.blocks([2]uint16{2, 3})
	p.fresh(11)
	p.cum(13)
	p.blocks()
	p.again(12)
	p.dups(12)
}

// checkOrder adds numbers from first on in an order, some of them twice, and asks that the floor is the last one up to which all have come.
func checkOrder(t *testing.T, first uint32, order []int) {
	t.Helper()
	p, come := start(t, first), map[int]bool{}
	for i, n := range order {
		p.fresh(first + uint32(n))
		come[n] = true
		p.again(first + uint32(order[i/2]))
		all := 0
		for come[all] {
			all++
		}
		p.cum(first + uint32(all) - 1)
		p.length(len(come) - all)
	}
	p.cum(first + uint32(len(order)) - 1)
	p.hasAll()
}

// permute hands on all orders of the numbers of a list.
func permute(list []int, from int, yield func([]int)) {
	if from == len(list) {
		yield(list)
		return
	}
	for i := from; i < len(list); i++ {
		list[from], list[i] = list[i], list[from]
		permute(list, from+1, yield)
		list[from], list[i] = list[i], list[from]
	}
}

// P10.4: in whatever order few numbers come.
func TestEveryOrder(t *testing.T) {
	for _, first := range []uint32{0, 1, 100, half - 3, half, top - 4, top - 2, top} {
		permute([]int{0, 1, 2, 3, 4}, 0, func(order []int) { checkOrder(t, first, order) })
	}
	permute([]int{0, 1, 2, 3, 4, 5, 6}, 0, func(order []int) {
		s := gaps.New(top - 3)
		for _, n := range order {
			s.Add(top - 3 + uint32(n))
		}
		if s.Cum() != 3-1 || s.Len() != 0 || len(s.Blocks()) != 0 {
			t.Errorf("%v: Cum %d, Len %d", order, s.Cum(), s.Len())
		}
	})
}

// P10.4: in whatever order as many come as are taken in at once.
func TestDrawnOrder(t *testing.T) {
	draw := rand.New(rand.NewSource(1))
	for _, first := range []uint32{0, 5, half - 60, half, top - 60, top} {
		for range 5 {
			checkOrder(t, first, draw.Perm(120))
		}
		for range 10 {
			s := gaps.New(first)
			for i, n := range draw.Perm(1024) {
				if got := s.Add(first + uint32(n)); got != gaps.Fresh {
					t.Fatalf("%d, the %dth, is told %d", n, i, got)
				}
			}
			if s.Cum() != first+1023 || s.Len() != 0 || len(s.Dups()) != 0 {
				t.Errorf("from %d on: Cum %d, Len %d", first, s.Cum(), s.Len())
			}
		}
	}
}

// P10.4: numbers that come late, a hundred at a time, all along a long way across 2^32 - 1.
func TestLongWay(t *testing.T) {
	draw := rand.New(rand.NewSource(2))
	const count = 40000
	first := top - count/2
	s := gaps.New(first)
	var late []uint32
	add := func(n uint32) {
		if got := s.Add(n); got != gaps.Fresh {
			t.Fatalf("over %d: Add(%d) is %d", s.Cum(), n, got)
		}
	}
	for i := range uint32(count) {
		if draw.Intn(4) > 0 {
			add(first + i)
		} else {
			late = append(late, first+i)
		}
		if len(late) == 100 || i == count-1 {
			draw.Shuffle(len(late), func(i, j int) { late[i], late[j] = late[j], late[i] })
			for _, n := range late {
				add(n)
			}
			late = late[:0]
			if s.Cum() != first+i || s.Len() != 0 {
				t.Fatalf("Cum is %d, Len %d, want %d, 0", s.Cum(), s.Len(), first+i)
			}
		}
	}
}

// checkShape asks that blocks lie apart, rising, above 1 and up to 1024.
func checkShape(t *testing.T, blocks []api.Block) {
	t.Helper()
	next := uint16(2)
	for _, b := range blocks {
		if b.From < next || b.To < b.From || b.To > 1024 {
			t.Fatalf("blocks %v", blocks)
		}
		next = b.To + 2
	}
	if len(blocks) > 64 {
		t.Fatalf("%d blocks", len(blocks))
	}
}

// oneCall makes a call of a pair, most often near its floor, and asks that the floor does not go down.
func (p *pair) oneCall(draw *rand.Rand, spread uint32) {
	p.t.Helper()
	before := p.words.floor
	floor := p.words.cum()
	n := floor + draw.Uint32()%spread
	switch draw.Intn(10) {
	case 0:
		n = floor + heights[draw.Intn(len(heights))]
	case 1:
		n = floor - draw.Uint32()%spread
	}
	switch k := draw.Intn(40); {
	case k == 0:
		p.forward(n)
	case k == 1:
		p.sameDups()
	default:
		p.asWords(n)
	}
	if p.words.floor < before || p.set.Cum()-floor >= half {
		p.t.Fatalf("the floor went down from %d to %d", floor, p.set.Cum())
	}
	checkShape(p.t, p.set.Blocks())
}

// P10.1 to P10.4: rows of calls, drawn from a fixed seed, answer what the chapter's words do, on two sets side by side.
func TestRows(t *testing.T) {
	draw := rand.New(rand.NewSource(3))
	for _, spread := range []uint32{3, 6, 20, 100, 600, 1030} {
		for _, floor := range floors {
			pairs := [2]*pair{over(t, floor), over(t, floor+draw.Uint32()%3)}
			for range 150 {
				pairs[draw.Intn(2)].oneCall(draw, spread)
				pairs[0].same()
				pairs[1].same()
			}
			pairs[0].sameDups()
			pairs[1].sameDups()
		}
	}
}

// P10.1 to P10.4: longer rows, in which many runs and many numbers told twice come together.
func TestLongRows(t *testing.T) {
	draw := rand.New(rand.NewSource(4))
	for _, floor := range []uint32{0, half - 500, half, top - 700, top - 100, top} {
		p := over(t, floor)
		for range 3000 {
			n := p.words.cum() + 2 + draw.Uint32()%1030
			if draw.Intn(100) == 0 {
				n = p.words.cum() + 1
			}
			p.asWords(n)
			switch draw.Intn(300) {
			case 0:
				p.sameDups()
			case 1:
				p.forward(p.words.cum() + draw.Uint32()%200)
			}
			checkShape(t, p.set.Blocks())
		}
		p.sameDups()
	}
}

// R3: what Blocks answered may be written to, and laid behind; the set stays as it is, and so does what it answered elsewhere.
func TestBlocksAreNewMemory(t *testing.T) {
	p := over(t, 20, 2, 3, 5, 8)
	first, second := p.set.Blocks(), p.set.Blocks()
	behind := append(first, api.Block{From: 9, To: 9}, api.Block{From: 10, To: 10})
	for i := range behind {
		behind[i] = api.Block{From: 77, To: 78}
	}
	for i := range first {
		first[i] = api.Block{From: 1, To: 1000}
	}
	want := []api.Block{{From: 2, To: 3}, {From: 5, To: 5}, {From: 8, To: 8}}
	if !slices.Equal(second, want) {
		t.Errorf("the second answer became %v", second)
	}
	p.same()
	p.hasAll(2, 3, 5, 8)
	p.fresh(24)
	p.fresh(21)
	if !slices.Equal(second, want) || first[0].To != 1000 {
		t.Errorf("later the answers became %v, %v", first, second)
	}
	p.blocks([2]uint16{3, 3})
}

// R3: likewise what Dups answered.
func TestDupsAreNewMemory(t *testing.T) {
	p := over(t, 20, 4, 6)
	for _, n := range []uint32{24, 20, 26} {
		p.again(n)
	}
	first := p.set.Dups()
	p.words.dups()
	for _, n := range []uint32{26, 19, 24, 20} {
		p.again(n)
	}
	if !slices.Equal(first, []uint32{24, 20, 26}) {
		t.Errorf("the first answer became %v", first)
	}
	behind := append(first, 1, 2, 3, 4, 5)
	for i := range behind {
		behind[i] = 99
	}
	for i := range first {
		first[i] = 98
	}
	second := p.set.Dups()
	p.words.dups()
	if !slices.Equal(second, []uint32{26, 19, 24, 20}) {
		t.Errorf("the second answer is %v", second)
	}
	p.again(24)
	if !slices.Equal(second, []uint32{26, 19, 24, 20}) || !slices.Equal(first, []uint32{98, 98, 98}) {
		t.Errorf("later the answers became %v, %v", first, second)
	}
	p.dups(24)
	p.hasAll(4, 6)
}

// Sets do not share what they hold, though they begin alike.
func TestSetsApart(t *testing.T) {
	a, b := start(t, 7), start(t, 7)
	a.fresh(9)
	b.hasAll()
	b.fresh(10)
	a.again(9)
	b.again(10)
	b.again(6)
	a.hasAll(3)
	a.fresh(10)
	a.fresh(7)
	b.cum(6)
	b.fresh(9)
	b.fresh(8)
	a.fresh(8)
	a.cum(10)
	b.blocks([2]uint16{2, 4})
	a.forward(5000)
	b.length(3)
	a.dups(9)
	b.dups(10, 6)
	checkNil(t, 9)
	c := start(t, 7)
	c.hasAll()
	c.dups()
}

// P1: a set that nobody made by New is one, too, and none of its calls panics; it is taken as one whose floor is 0.
func TestZeroValue(t *testing.T) {
	for _, h := range heights {
		p := &pair{t, &gaps.Set{}, newWords(1)}
		p.same()
		p.dups()
		p.asWords(h)
		p.sameDups()
		q := &pair{t, new(gaps.Set), newWords(1)}
		q.forward(h)
		q.asWords(h + 2)
		q.asWords(h + 1)
		q.sameDups()
	}
}

// P1: no call panics at any number, over any floor, in a set that has something and in one that has nothing.
func TestEveryArgument(t *testing.T) {
	for _, first := range firsts() {
		for _, n := range firsts() {
			for _, p := range []*pair{start(t, first), over(t, first, 2, 3, 1024)} {
				p.has(n)
				p.asWords(n)
				p.asWords(n + 1)
				p.asWords(n)
				p.forward(n)
				p.asWords(n - 1)
				p.forward(n + half - 1)
				p.sameDups()
			}
		}
	}
}
