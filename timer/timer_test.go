package timer_test

import (
	"math"
	"slices"
	"testing"

	"bollard/timer"
)

// pair is a timer: its id, and when it is due.
type pair struct{ id, at int }

// set is a set in which these were started, one behind the other.
func set(pairs ...pair) *timer.Set {
	s := &timer.Set{}
	for _, p := range pairs {
		s.Start(p.id, p.at)
	}
	return s
}

// edges are the least and the greatest numbers, those about 0, and ordinary ones.
var edges = []int{math.MinInt, math.MinInt + 1, math.MinInt32, -1000, -2, -1, 0, 1, 2, 1000, math.MaxInt32, math.MaxUint32, math.MaxInt - 1, math.MaxInt}

// checkNext asks that a timer is the next one.
func checkNext(t *testing.T, what string, s *timer.Set, want pair) {
	t.Helper()
	if id, at, ok := s.Next(); id != want.id || at != want.at || !ok {
		t.Errorf("%s: Next is %d, %d, %v, want %v", what, id, at, ok, want)
	}
}

// checkAt asks that a timer is due at a time.
func checkAt(t *testing.T, what string, s *timer.Set, want pair) {
	t.Helper()
	if at, ok := s.At(want.id); at != want.at || !ok {
		t.Errorf("%s: At(%d) is %d, %v, want %d", what, want.id, at, ok, want.at)
	}
}

// checkNot asks that there is no timer of an id.
func checkNot(t *testing.T, what string, s *timer.Set, id int) {
	t.Helper()
	if at, ok := s.At(id); at != 0 || ok {
		t.Errorf("%s: At(%d) is %d, %v, want 0, false", what, id, at, ok)
	}
}

// checkDue asks which ids are due.
func checkDue(t *testing.T, what string, s *timer.Set, now int, want ...int) {
	t.Helper()
	if got := s.Due(now); !slices.Equal(got, want) {
		t.Errorf("%s: Due(%d) is %v, want %v", what, now, got, want)
	}
}

// checkLen asks how many there are.
func checkLen(t *testing.T, what string, s *timer.Set, want int) {
	t.Helper()
	if got := s.Len(); got != want {
		t.Errorf("%s: Len is %d, want %d", what, got, want)
	}
}

// checkEmpty asks that there are no timers, by every call that asks.
func checkEmpty(t *testing.T, what string, s *timer.Set) {
	t.Helper()
	checkLen(t, what, s, 0)
	if id, at, ok := s.Next(); id != 0 || at != 0 || ok {
		t.Errorf("%s: Next is %d, %d, %v, want 0, 0, false", what, id, at, ok)
	}
	for _, x := range edges {
		checkNot(t, what, s, x)
		checkDue(t, what, s, x)
	}
	checkLen(t, what, s, 0)
}

// P5.1: a set's zero value has no timers, whichever call is the first one.
func TestZeroValue(t *testing.T) {
	var zero timer.Set
	checkEmpty(t, "a variable", &zero)
	checkEmpty(t, "a new one", new(timer.Set))
	for _, x := range edges {
		s := &timer.Set{}
		s.Stop(x)
		checkEmpty(t, "stopped first", s)
		checkDue(t, "due first", &timer.Set{}, x)
		checkNot(t, "asked first", &timer.Set{}, x)
		started := set(pair{x, 7})
		checkLen(t, "started first", started, 1)
		checkAt(t, "started first", started, pair{x, 7})
		checkNext(t, "started first", started, pair{x, 7})
	}
	zero.Start(1, 2)
	checkAt(t, "started behind other calls", &zero, pair{1, 2})
	checkDue(t, "started behind other calls", &zero, 2, 1)
}

// P5.1: a nil set has no timers; Start and Stop do nothing.
func TestNil(t *testing.T) {
	var s *timer.Set
	checkEmpty(t, "nil", s)
	for _, id := range edges {
		for _, at := range edges {
			s.Start(id, at)
		}
		checkNot(t, "nil, started", s, id)
		s.Stop(id)
	}
	checkEmpty(t, "nil, started and stopped", s)
}

// P5.1: a timer that is started again is due at the new time alone.
func TestStartAgain(t *testing.T) {
	for _, c := range []struct {
		name string
		at   int
		next pair
		due  []int
	}{
		{"far earlier", -9, pair{2, -9}, []int{2, 1, 3}},
		{"earlier than another one", 3, pair{2, 3}, []int{2, 1, 3}},
		{"earlier, at the time of another one", 4, pair{1, 4}, []int{1, 2, 3}},
		{"one earlier", 5, pair{1, 4}, []int{1, 2, 3}},
		{"at the same time", 6, pair{1, 4}, []int{1, 2, 3}},
		{"one later", 7, pair{1, 4}, []int{1, 2, 3}},
		{"later, at the time of another one", 8, pair{1, 4}, []int{1, 2, 3}},
		{"later than another one", 9, pair{1, 4}, []int{1, 3, 2}},
		{"at 0", 0, pair{2, 0}, []int{2, 1, 3}},
	} {
		s := set(pair{1, 4}, pair{2, 6}, pair{3, 8}, pair{2, c.at})
		checkLen(t, c.name, s, 3)
		checkAt(t, c.name, s, pair{2, c.at})
		checkAt(t, c.name, s, pair{1, 4})
		checkAt(t, c.name, s, pair{3, 8})
		checkNext(t, c.name, s, c.next)
		checkDue(t, c.name, s, 100, c.due...)
		checkEmpty(t, c.name, s)
	}
}

// P5.1: of many starts of one id the last one counts, and it is one timer.
func TestStartMany(t *testing.T) {
	s := &timer.Set{}
	for _, at := range edges {
		for _, then := range edges {
			s.Start(5, at)
			s.Start(5, then)
			checkLen(t, "started many times", s, 1)
			checkAt(t, "started many times", s, pair{5, then})
			checkNext(t, "started many times", s, pair{5, then})
		}
	}
	s.Start(5, 3)
	checkDue(t, "ahead of the last time", s, 2)
	checkDue(t, "at the last time", s, 3, 5)
	checkDue(t, "at the times of all the others", s, math.MaxInt)
}

// P5.1: Stop takes away that timer, and no other one.
func TestStop(t *testing.T) {
	for _, id := range []int{-1, 0, 1} {
		s := set(pair{-1, 4}, pair{0, 4}, pair{1, 2})
		s.Stop(id)
		checkNot(t, "stopped", s, id)
		checkLen(t, "stopped", s, 2)
		s.Stop(id)
		checkLen(t, "stopped twice", s, 2)
		want := slices.DeleteFunc([]int{1, -1, 0}, func(x int) bool { return x == id })
		checkDue(t, "stopped", s, 4, want...)
		checkDue(t, "the stopped one, later", s, math.MaxInt)
	}
}

// P5.1: Stop of a timer that there is not changes nothing.
func TestStopNone(t *testing.T) {
	s := set(pair{3, 10}, pair{4, 20})
	for _, id := range append([]int{10, 20, 5}, edges...) {
		s.Stop(id)
		checkLen(t, "another one stopped", s, 2)
		checkAt(t, "another one stopped", s, pair{3, 10})
		checkAt(t, "another one stopped", s, pair{4, 20})
	}
	checkDue(t, "others stopped", s, 20, 3, 4)
	s.Stop(3)
	checkEmpty(t, "stopped behind Due", s)
}

// P5.1: a timer may be started again when it was stopped, or told.
func TestStartAfterwards(t *testing.T) {
	s := set(pair{1, 5})
	s.Stop(1)
	checkEmpty(t, "stopped", s)
	s.Start(1, 6)
	checkAt(t, "started behind Stop", s, pair{1, 6})
	checkDue(t, "at the time of the stopped one", s, 5)
	checkDue(t, "started behind Stop", s, 6, 1)
	checkEmpty(t, "told", s)
	s.Start(1, 6)
	checkLen(t, "started behind Due", s, 1)
	checkDue(t, "ahead of its time", s, 5)
	checkDue(t, "started behind Due", s, 6, 1)
	checkEmpty(t, "told again", s)
}

// P5.1: At of a timer that there is not is 0 and false, also beside others; one that is due at 0 is there.
func TestAt(t *testing.T) {
	s := set(pair{7, 0}, pair{0, 7}, pair{-7, -1})
	checkAt(t, "due at 0", s, pair{7, 0})
	checkAt(t, "the id 0", s, pair{0, 7})
	checkAt(t, "below 0", s, pair{-7, -1})
	for _, id := range edges {
		if id != 0 {
			checkNot(t, "beside others", s, id)
		}
	}
	checkLen(t, "asked", s, 3)
}

// P5.1: Len goes with what is there.
func TestLen(t *testing.T) {
	s := &timer.Set{}
	for n := range 40 {
		checkLen(t, "started", s, n)
		s.Start(n, n/2)
	}
	checkDue(t, "some", s, 1, 0, 1, 2, 3)
	checkLen(t, "some were told", s, 36)
	for n := range 40 {
		s.Stop(39 - n)
		checkLen(t, "stopped", s, max(0, 35-n))
	}
}

// P5.2: Next is the one of the least time, of several at that time the one of the least id, in whichever order they were started.
func TestNext(t *testing.T) {
	for _, c := range []struct {
		name  string
		pairs []pair
		want  pair
	}{
		{"one", []pair{{1, 5}}, pair{1, 5}},
		{"one of zeros", []pair{{0, 0}}, pair{0, 0}},
		{"the time counts ahead of the id", []pair{{1, 5}, {9, 4}}, pair{9, 4}},
		{"the id counts at one time", []pair{{3, 5}, {2, 5}, {4, 5}, {9, 6}}, pair{2, 5}},
		{"ids below 0 are less", []pair{{0, 5}, {-1, 5}, {1, 5}, {-2, 6}}, pair{-1, 5}},
		{"times below 0 are earlier", []pair{{1, 0}, {2, -1}, {3, 1}}, pair{2, -1}},
		{"0 is later than what is below", []pair{{1, 0}, {1000, -1000}}, pair{1000, -1000}},
		{"the least and the greatest time", []pair{{1, math.MaxInt}, {2, math.MinInt}}, pair{2, math.MinInt}},
		{"the least and the greatest id", []pair{{math.MaxInt, 3}, {math.MinInt, 3}}, pair{math.MinInt, 3}},
		{"the greatest of both", []pair{{math.MaxInt, math.MaxInt}}, pair{math.MaxInt, math.MaxInt}},
		{"the greatest time, two ids", []pair{{2, math.MaxInt}, {-2, math.MaxInt}}, pair{-2, math.MaxInt}},
		{"the least of both", []pair{{math.MinInt, math.MinInt}, {0, 0}}, pair{math.MinInt, math.MinInt}},
	} {
		for range 2 {
			checkNext(t, c.name, set(c.pairs...), c.want)
			slices.Reverse(c.pairs)
		}
	}
}

// P5.2: Next leaves the set as it is, and answers the same when asked again.
func TestNextLeavesTheSet(t *testing.T) {
	s := set(pair{1, 5}, pair{2, 3}, pair{3, 3})
	for range 20 {
		checkNext(t, "asked again", s, pair{2, 3})
		checkLen(t, "asked again", s, 3)
	}
	checkAt(t, "asked", s, pair{2, 3})
	checkDue(t, "asked", s, 5, 2, 3, 1)
}

// P5.2: when the next one goes, is moved, or another one comes ahead of it, Next tells the one that is first then.
func TestNextGoesOn(t *testing.T) {
	s := set(pair{1, 5}, pair{2, 3}, pair{3, 4})
	s.Stop(2)
	checkNext(t, "the first one stopped", s, pair{3, 4})
	s.Start(3, 6)
	checkNext(t, "the first one moved", s, pair{1, 5})
	s.Start(4, 1)
	checkNext(t, "one ahead", s, pair{4, 1})
	checkDue(t, "the first one", s, 1, 4)
	checkNext(t, "the first one told", s, pair{1, 5})
	s.Start(0, 5)
	checkNext(t, "a lesser id at the same time", s, pair{0, 5})
}

// P5.3: Due tells nothing, something and everything; what it told is there no more, and the rest is.
func TestDue(t *testing.T) {
	for _, c := range []struct {
		name string
		now  int
		want []int
		left []int
	}{
		{"the least time of all", math.MinInt, nil, []int{4, 2, 1, 3, 5}},
		{"one ahead of the first", -8, nil, []int{4, 2, 1, 3, 5}},
		{"just the first", -7, []int{4}, []int{2, 1, 3, 5}},
		{"behind the first", -6, []int{4}, []int{2, 1, 3, 5}},
		{"ahead of two at one time", 4, []int{4, 2}, []int{1, 3, 5}},
		{"just two at one time", 5, []int{4, 2, 1, 3}, []int{5}},
		{"one ahead of the last", 8, []int{4, 2, 1, 3}, []int{5}},
		{"just the last", 9, []int{4, 2, 1, 3, 5}, nil},
		{"the greatest time of all", math.MaxInt, []int{4, 2, 1, 3, 5}, nil},
	} {
		s := set(pair{5, 9}, pair{3, 5}, pair{1, 5}, pair{2, 3}, pair{4, -7})
		checkDue(t, c.name, s, c.now, c.want...)
		checkDue(t, c.name+", again", s, c.now)
		checkLen(t, c.name, s, len(c.left))
		for _, id := range c.want {
			checkNot(t, c.name, s, id)
		}
		checkDue(t, c.name+", the rest", s, 9, c.left...)
		checkEmpty(t, c.name, s)
	}
}

// P5.3: several at one time are told by their ids, the least first, those below 0 ahead of 0.
func TestDueAtOneTime(t *testing.T) {
	for _, at := range edges {
		s := &timer.Set{}
		for i := range edges {
			s.Start(edges[len(edges)-1-i], at)
		}
		if at > math.MinInt {
			checkDue(t, "one ahead", s, at-1)
		}
		checkDue(t, "all at one time", s, at, edges...)
		checkEmpty(t, "all at one time", s)
	}
}

// P5.3: times at all edges are told in their order, not in that of the ids, each at its time and not ahead of it.
func TestDueAtEdges(t *testing.T) {
	s, ids := &timer.Set{}, []int(nil)
	for i, at := range edges {
		s.Start(-i, at)
		ids = append(ids, -i)
	}
	checkDue(t, "all", s, math.MaxInt, ids...)
	for i, at := range edges {
		s.Start(-i, at)
	}
	for i, at := range edges {
		if at > math.MinInt {
			checkDue(t, "one ahead", s, at-1)
		}
		checkDue(t, "at its time", s, at, -i)
		checkLen(t, "at its time", s, len(edges)-1-i)
	}
}

// P5.3: what is started behind its time is due at once; a clock that goes back makes nothing due that is not.
func TestClockGoesBack(t *testing.T) {
	s := set(pair{1, 50})
	checkDue(t, "at first", s, 100, 1)
	s.Start(2, 40)
	s.Start(3, 60)
	checkDue(t, "back, ahead of both", s, 39)
	checkDue(t, "back, behind one", s, 59, 2)
	checkDue(t, "at the same time as at first", s, 100, 3)
}

// The chapter's example, as it stands there.
func TestExample(t *testing.T) {
	s := &timer.Set{}
	s.Start(1, 5)
	s.Start(2, 3)
	s.Start(3, 5)
	checkNext(t, "the example", s, pair{2, 3})
	checkDue(t, "the example", s, 5, 2, 1, 3)
	checkLen(t, "the example", s, 0)
}
