package timer_test

import (
	"cmp"
	"math"
	"math/rand"
	"slices"
	"testing"

	"bollard/timer"
)

// list says the chapter's words plainly: timers in a row, each looked for one by one.
type list []pair

func (l *list) start(id, at int) {
	l.stop(id)
	*l = append(*l, pair{id, at})
}

func (l *list) stop(id int) {
	*l = slices.DeleteFunc(*l, func(p pair) bool { return p.id == id })
}

func (l *list) at(id int) (int, bool) {
	for _, p := range *l {
		if p.id == id {
			return p.at, true
		}
	}
	return 0, false
}

func (l *list) next() (int, int, bool) {
	if len(*l) == 0 {
		return 0, 0, false
	}
	first := (*l)[0]
	for _, p := range *l {
		if p.at < first.at || p.at == first.at && p.id < first.id {
			first = p
		}
	}
	return first.id, first.at, true
}

func (l *list) due(now int) []int {
	var out []int
	for {
		id, at, ok := l.next()
		if !ok || at > now {
			return out
		}
		out = append(out, id)
		l.stop(id)
	}
}

// same asks that a set has just what a list has.
func same(t *testing.T, s *timer.Set, l *list, numbers []int) {
	t.Helper()
	checkLen(t, "beside the list", s, len(*l))
	wantID, wantAt, want := l.next()
	if id, at, ok := s.Next(); id != wantID || at != wantAt || ok != want {
		t.Fatalf("%v: Next is %d, %d, %v", *l, id, at, ok)
	}
	for _, id := range numbers {
		wantAt, want := l.at(id)
		if at, ok := s.At(id); at != wantAt || ok != want {
			t.Fatalf("%v: At(%d) is %d, %v", *l, id, at, ok)
		}
	}
}

// P5.1 to P5.3: rows of calls, drawn from a fixed seed, answer what the chapter's words do, on two sets side by side.
func TestRows(t *testing.T) {
	draw := rand.New(rand.NewSource(5))
	for _, numbers := range [][]int{edges, {0, 1, 2, 3}, {-3, -2, -1, 0, 1, 2, 3, 4, 5, 6, 7, 8, 9}} {
		for range 150 {
			sets, lists := [2]timer.Set{}, [2]list{}
			for range 60 {
				s, l := &sets[draw.Intn(2)], &lists[0]
				if s == &sets[1] {
					l = &lists[1]
				}
				oneCall(t, draw, s, l, numbers)
				same(t, &sets[0], &lists[0], numbers)
				same(t, &sets[1], &lists[1], numbers)
			}
		}
	}
}

// oneCall makes a call of both that changes them.
func oneCall(t *testing.T, draw *rand.Rand, s *timer.Set, l *list, numbers []int) {
	t.Helper()
	id, x := numbers[draw.Intn(len(numbers))], numbers[draw.Intn(len(numbers))]
	switch draw.Intn(8) {
	case 0:
		s.Stop(id)
		l.stop(id)
	case 1:
		was := slices.Clone(*l)
		if got, want := s.Due(x), l.due(x); !slices.Equal(got, want) {
			t.Fatalf("%v: Due(%d) is %v, want %v", was, x, got, want)
		}
	default:
		s.Start(id, x)
		l.start(id, x)
	}
}

// P5.4: each timer is told once and not ahead of its time, and those of a step in the order of time; asked in one step and in many, the same is told.
func TestOneStepAndMany(t *testing.T) {
	draw := rand.New(rand.NewSource(6))
	for _, step := range []int{1, 2, 3, 7, 20, 100} {
		var pairs []pair
		for id := range 60 {
			pairs = append(pairs, pair{id - 30, draw.Intn(40) - 20})
		}
		draw.Shuffle(len(pairs), func(i, j int) { pairs[i], pairs[j] = pairs[j], pairs[i] })
		s, times := set(pairs...), map[int]int{}
		for _, p := range pairs {
			times[p.id] = p.at
		}
		var told []int
		for now := -25; now < 25+step; now += step {
			for _, id := range s.Due(now) {
				if at := times[id]; at > now || at <= now-step {
					t.Errorf("steps of %d: %d, due at %d, told at %d", step, id, at, now)
				}
				told = append(told, id)
			}
		}
		checkDue(t, "in one step", set(pairs...), 25, told...)
		slices.SortFunc(pairs, func(p, q pair) int { return cmp.Or(p.at-q.at, p.id-q.id) })
		for i, p := range pairs {
			if i >= len(told) || told[i] != p.id {
				t.Fatalf("steps of %d: told %v, want %v", step, told, pairs)
			}
		}
		checkEmpty(t, "in many steps", s)
	}
}

// P5.4: a timer that is started and not stopped is told once, however often Due is asked; one that is stopped ahead of that never.
func TestToldOnce(t *testing.T) {
	s := set(pair{1, 10}, pair{2, 20}, pair{3, 30})
	counts := map[int]int{}
	for now := range 60 {
		if now == 15 {
			s.Stop(3)
		}
		if now == 5 {
			s.Start(2, 25)
		}
		for range 3 {
			for _, id := range s.Due(now) {
				counts[id]++
				if now != 10 && now != 25 {
					t.Errorf("%d told at %d", id, now)
				}
			}
		}
	}
	if counts[1] != 1 || counts[2] != 1 || counts[3] != 0 {
		t.Errorf("told so often: %v", counts)
	}
}

// P5.4: told in the order of time by asking Next for each, too.
func TestAsNextWouldTell(t *testing.T) {
	draw := rand.New(rand.NewSource(7))
	var pairs []pair
	for range 200 {
		pairs = append(pairs, pair{draw.Intn(400) - 200, draw.Intn(30) - 15})
	}
	s, beside := set(pairs...), set(pairs...)
	var want []int
	for range s.Len() {
		id, _, _ := beside.Next()
		want = append(want, id)
		beside.Stop(id)
	}
	checkDue(t, "as Next tells", s, 15, want...)
}

// R3: what Due answered may be written to, and laid behind; the set stays as it is, and so does what it answered elsewhere.
func TestAnswerIsNewMemory(t *testing.T) {
	s := set(pair{1, 1}, pair{2, 2}, pair{3, 3}, pair{4, 3}, pair{5, 5})
	first := s.Due(2)
	behind := append(first, 70, 71, 72)
	for i := range behind {
		behind[i] = 5
	}
	for i := range first {
		first[i] = 3
	}
	checkLen(t, "written to", s, 3)
	checkAt(t, "written to", s, pair{3, 3})
	checkAt(t, "written to", s, pair{5, 5})
	second := s.Due(3)
	if !slices.Equal(second, []int{3, 4}) || !slices.Equal(first, []int{3, 3}) {
		t.Errorf("told %v, the one ahead is %v", second, first)
	}
	s.Start(8, 4)
	s.Start(9, 4)
	checkDue(t, "later", s, 4, 8, 9)
	if !slices.Equal(second, []int{3, 4}) {
		t.Errorf("what was told became %v", second)
	}
}

// P5.1: two sets side by side have nothing to do with each other, nor with a nil one.
func TestTwoSets(t *testing.T) {
	var none *timer.Set
	a, b := &timer.Set{}, &timer.Set{}
	a.Start(1, 5)
	b.Start(1, 7)
	none.Start(1, 9)
	b.Start(2, 6)
	checkAt(t, "the first", a, pair{1, 5})
	checkAt(t, "the second", b, pair{1, 7})
	checkNot(t, "the first", a, 2)
	a.Stop(2)
	checkDue(t, "the first", a, 10, 1)
	checkLen(t, "the second", b, 2)
	b.Stop(1)
	a.Start(1, 4)
	checkNot(t, "the second", b, 1)
	checkNext(t, "the second", b, pair{2, 6})
	checkNext(t, "the first", a, pair{1, 4})
	checkDue(t, "the second", b, 10, 2)
	checkEmpty(t, "the second", b)
	checkEmpty(t, "none", none)
	checkLen(t, "the first", a, 1)
}

// P1: no call panics at any arguments, of a nil set, of one without timers, and of one that has them.
func TestEveryArgument(t *testing.T) {
	for _, x := range edges {
		for _, y := range edges {
			for _, s := range []*timer.Set{nil, {}, set(pair{x, y}), set(pair{0, 0}, pair{y, x}, pair{x, x})} {
				s.At(x)
				s.Next()
				s.Stop(y)
				s.Start(x, y)
				s.Due(x)
				s.Due(y)
				s.Stop(x)
				s.Due(math.MinInt)
				s.Due(math.MaxInt)
				checkEmpty(t, "behind all", s)
			}
		}
	}
}

// P1: many timers are told in one call, which ends soon.
func TestMany(t *testing.T) {
	const n = 200000
	s, want := &timer.Set{}, make([]int, n)
	for i := range n {
		id := i * 7919 % n
		s.Start(id, -id)
		want[i] = n - 1 - i
	}
	checkLen(t, "many", s, n)
	checkNext(t, "many", s, pair{n - 1, 1 - n})
	if got := s.Due(0); !slices.Equal(got, want) {
		t.Errorf("%d of many are told, or not in order", len(got))
	}
	checkEmpty(t, "many", s)
}
