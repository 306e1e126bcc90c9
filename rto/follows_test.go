package rto_test

import (
	"math/rand"
	"testing"

	"bollard/rto"
)

// The chapter's examples.
func TestExamples(t *testing.T) {
	checkSample(t, rto.Start(), 100, rto.State{Smooth: 100, Var: 50, Wait: 1000, Known: true})
	checkBack(t, rto.Start(), rto.State{Wait: 6000})
}

// P11.4: behind a sample that counts Wait is 1000 to 60000, whatever it was.
func TestWaitWithinBounds(t *testing.T) {
	draw := rand.New(rand.NewSource(1))
	for range 200000 {
		s := rto.State{Smooth: drawNumber(draw, greatest), Var: drawNumber(draw, greatest), Wait: drawNumber(draw, greatest), Known: draw.Intn(2) == 0}
		r := drawNumber(draw, longestWay)
		got := rto.Sample(s, r)
		if !inside(got.Wait, 1000, 60000) || !got.Known {
			t.Fatalf("Sample(%v, %d) is %v", s, r, got)
		}
		if got != sampled(s, r) {
			t.Fatalf("Sample(%v, %d) is %v, want %v", s, r, got, sampled(s, r))
		}
	}
}

// P11.4: behind sixteen times Back of Start Wait is 60000, and stays so.
func TestSixteenTimesBack(t *testing.T) {
	s := rto.Start()
	for i := range 100 {
		s = rto.Back(s)
		want := 60000
		if i < 4 {
			want = 3000 << (i + 1)
		}
		if s != (rto.State{Wait: want}) {
			t.Errorf("%d times Back of Start is %v, want Wait %d alone", i+1, s, want)
		}
	}
	s = rto.State{}
	for range 16 {
		s = rto.Back(s)
	}
	if s.Wait != 60000 {
		t.Errorf("sixteen times Back of nothing is %v", s)
	}
}

// P11.4: as long as all samples are the same, Smooth is that one, whether one waits longer or samples that do not count come in between.
func TestSameSamples(t *testing.T) {
	for _, r := range []int{0, 1, 2, 3, 4, 5, 6, 7, 8, 9, 15, 16, 17, 99, 100, 101, 999, 1000, 1001, 59999, 60000, 60001, 12345677, longestWay - 7, longestWay - 1, longestWay} {
		s := rto.Start()
		for i := range 200 {
			last := s.Var
			s = rto.Sample(s, r)
			if s.Smooth != r || !s.Known {
				t.Fatalf("behind %d samples of %d the state is %v", i+1, r, s)
			}
			if i > 0 && (s.Var > last || s.Var == last && last != 0) {
				t.Fatalf("behind %d samples of %d Var is %d, and was %d", i+1, r, s.Var, last)
			}
			if i%3 == 0 {
				s = rto.Back(s)
			}
			if i%5 == 0 {
				s = rto.Sample(s, -r-1)
				s = rto.Sample(s, longestWay+1+r)
			}
		}
		if s.Var != 0 || rto.Sample(s, r).Wait != held(r+1) {
			t.Errorf("behind all samples of %d the state is %v", r, s)
		}
	}
}

// P11.2, P11.3: a row that was worked out by hand.
func TestRow(t *testing.T) {
	s := rto.Start()
	for i, c := range []struct {
		r    int
		want rto.State
	}{
		{-1, rto.State{Wait: 3000}},
		{1001, known(1001, 500, 3001)},
		{1001, known(1001, 375, 2501)},
		{500, known(938, 406, 2562)},
		{2000, known(1070, 570, 3350)},
		{longestWay + 1, known(1070, 570, 3350)},
		{0, known(936, 695, 3716)},
		{935, known(935, 521, 3019)},
	} {
		if s = rto.Sample(s, c.r); s != c.want {
			t.Fatalf("behind step %d the state is %v, want %v", i, s, c.want)
		}
	}
	for _, wait := range []int{6038, 12076, 24152, 48304, 60000, 60000} {
		if s = rto.Back(s); s != known(935, 521, wait) {
			t.Fatalf("Back is %v, want %v", s, known(935, 521, wait))
		}
	}
	checkSample(t, s, 935, known(935, 390, 2495))
}

// drawRow goes a row of samples and backs that are drawn, held against the words at each step, and tells where it ends.
func drawRow(t *testing.T, draw *rand.Rand, s rto.State, steps int) rto.State {
	t.Helper()
	near := drawNumber(draw, longestWay)
	for i := range steps {
		before, r, want := s, near, s
		switch draw.Intn(8) {
		case 0:
			r = drawNumber(draw, longestWay)
		case 1:
			r = edges[draw.Intn(len(edges))]
		case 2, 3, 4:
			r = near + draw.Intn(65) - 32
		}
		if draw.Intn(4) == 0 {
			s, want = rto.Back(s), backed(s)
		} else {
			s, want = rto.Sample(s, r), sampled(s, r)
		}
		if s != want {
			t.Fatalf("step %d, with %d, makes %v of %v, want %v", i, r, s, before, want)
		}
		if draw.Intn(20) == 0 {
			near = drawNumber(draw, longestWay)
		}
	}
	return s
}

// P11.2, P11.3: rows of samples and backs from a start, and from states that are drawn.
func TestRows(t *testing.T) {
	draw := rand.New(rand.NewSource(2))
	for range 400 {
		drawRow(t, draw, rto.Start(), 200)
	}
	for range 2000 {
		s := rto.State{Smooth: drawNumber(draw, greatest), Var: drawNumber(draw, greatest), Wait: drawNumber(draw, greatest), Known: draw.Intn(2) == 0}
		drawRow(t, draw, s, 20)
	}
	for _, n := range broken {
		for _, s := range withOne(n) {
			drawRow(t, draw, s, 20)
		}
	}
}

// R3: nothing is kept: a call answers the same, whatever was called ahead of it, and rows that go by turns are as each alone.
func TestNothingKept(t *testing.T) {
	draw := rand.New(rand.NewSource(3))
	one, other := rto.Start(), rto.Start()
	wantOne, wantOther := rto.Start(), rto.Start()
	for range 2000 {
		r, q := drawNumber(draw, longestWay), drawNumber(draw, 3000)
		one, other = rto.Sample(one, r), rto.Back(rto.Sample(other, q))
		wantOne, wantOther = sampled(wantOne, r), backed(sampled(wantOther, q))
		if one != wantOne || other != wantOther {
			t.Fatalf("by turns: %v and %v, want %v and %v", one, other, wantOne, wantOther)
		}
		if rto.Start() != (rto.State{Wait: 3000}) {
			t.Fatalf("Start is %v", rto.Start())
		}
	}
}

// P1: every call ends and none panics, at all edges of all arguments together.
func TestAllEdges(t *testing.T) {
	few := []int{least, -1, 0, 1, 4, 1000, 30000, 60000, longestWay, longestWay + 1, greatest, greatest + 1, most}
	for _, smooth := range few {
		for _, variance := range few {
			for _, wait := range few {
				for _, is := range []bool{false, true} {
					s := rto.State{Smooth: smooth, Var: variance, Wait: wait, Known: is}
					if got := rto.Back(s); got != backed(s) {
						t.Errorf("Back(%v) is %v, want %v", s, got, backed(s))
					}
					for _, r := range few {
						if got := rto.Sample(s, r); got != sampled(s, r) {
							t.Errorf("Sample(%v, %d) is %v, want %v", s, r, got, sampled(s, r))
						}
					}
				}
			}
		}
	}
	for _, r := range edges {
		checkSample(t, rto.Start(), r, sampled(rto.Start(), r))
	}
}
