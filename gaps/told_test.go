package gaps_test

import (
	"slices"
	"testing"

	"bollard/gaps"
)

// P10.3: the runs above the floor, by the heights of their ends.
func TestBlocks(t *testing.T) {
	for _, c := range []struct {
		name    string
		heights []uint32
		want    [][2]uint16
	}{
		{"none", nil, nil},
		{"one number", []uint32{2}, [][2]uint16{{2, 2}}},
		{"one number far away", []uint32{1024}, [][2]uint16{{1024, 1024}}},
		{"one run", []uint32{3, 4, 5}, [][2]uint16{{3, 5}}},
		{"one run, added from above", []uint32{5, 4, 3}, [][2]uint16{{3, 5}}},
		{"one run, its middle last", []uint32{3, 5, 4}, [][2]uint16{{3, 5}}},
		{"runs one number apart", []uint32{2, 3, 5, 6, 8}, [][2]uint16{{2, 3}, {5, 6}, {8, 8}}},
		{"numbers one apart", []uint32{8, 6, 4, 2}, [][2]uint16{{2, 2}, {4, 4}, {6, 6}, {8, 8}}},
		{"runs far apart", []uint32{1024, 1023, 500, 2, 501}, [][2]uint16{{2, 2}, {500, 501}, {1023, 1024}}},
		{"about a whole octet", []uint32{254, 255, 257, 256, 259, 511, 512, 513}, [][2]uint16{{254, 257}, {259, 259}, {511, 513}}},
	} {
		for _, floor := range floors {
			p := over(t, floor, c.heights...)
			p.blocks(c.want...)
			p.blocks(c.want...)
			p.hasAll(c.heights...)
			p.dups()
		}
	}
}

// P10.3: two runs become one when the number between them comes.
func TestBlocksGrowTogether(t *testing.T) {
	for _, floor := range floors {
		p := over(t, floor, 3, 5, 7)
		p.fresh(floor + 6)
		p.blocks([2]uint16{3, 3}, [2]uint16{5, 7})
		p.fresh(floor + 4)
		p.blocks([2]uint16{3, 7})
		p.fresh(floor + 2)
		p.blocks([2]uint16{2, 7})
		p.fresh(floor + 8)
		p.blocks([2]uint16{2, 8})
		p.fresh(floor + 1)
		p.blocks()
		p.cum(floor + 8)
	}
}

// P10.3: heights are told from where the floor is now.
func TestBlocksFollowTheFloor(t *testing.T) {
	for _, floor := range floors {
		p := over(t, floor, 100, 101, 200)
		for h := uint32(1); h < 99; h++ {
			p.fresh(floor + h)
			p.blocks([2]uint16{uint16(100 - h), uint16(101 - h)}, [2]uint16{uint16(200 - h), uint16(200 - h)})
		}
		p.fresh(floor + 99)
		p.cum(floor + 101)
		p.blocks([2]uint16{99, 99})
	}
}

// P10.3: of 63, 64, 65 and more runs the first 64 are told, by height, whichever came first.
func TestBlocksAtTheLimit(t *testing.T) {
	for _, floor := range []uint32{0, 7, half - 300, half, top - 300, top - 1, top} {
		for _, runs := range []uint32{62, 63, 64, 65, 66, 128, 341} {
			for _, backwards := range []bool{false, true} {
				var hs []uint32
				var want [][2]uint16
				for i := range runs {
					hs = append(hs, 3*i+2, 3*i+3)
					if i < 64 {
						want = append(want, [2]uint16{uint16(3*i + 2), uint16(3*i + 3)})
					}
				}
				if backwards {
					slices.Reverse(hs)
				}
				p := over(t, floor, hs...)
				p.blocks(want...)
				p.length(int(2 * runs))
			}
		}
	}
}

// P10.3: the 64th run is told up to its end, and runs that were not told are when those below are gone.
func TestBlocksBeyondTheLimit(t *testing.T) {
	for _, floor := range []uint32{0, half - 100, top - 100} {
		p := over(t, floor, rising(2, 140, 2)...)
		p.fresh(floor + 129)
		got := p.set.Blocks()
		if len(got) != 64 || got[62].From != 126 || got[63].From != 128 || got[63].To != 130 {
			t.Errorf("%d runs, the last one %v", len(got), got[len(got)-1])
		}
		p.fresh(floor + 1)
		got = p.set.Blocks()
		if len(got) != 64 || got[0].From != 2 || got[63].From != 130 || got[63].To != 130 {
			t.Errorf("%d runs, the last one %v", len(got), got[len(got)-1])
		}
		p.forward(floor + 135)
		p.blocks([2]uint16{2, 2}, [2]uint16{4, 4})
	}
}

// P10.3: what was told twice by its height, 0 or 2^31 and more, or by having been added, is remembered, in the order in which it came, as often as it was told.
func TestDups(t *testing.T) {
	for _, floor := range floors {
		p := over(t, floor, 4, 9)
		for _, h := range []uint32{0, 9, half, 4, top, half + 1, 9, 0, 0, top - 1023, 4} {
			p.again(floor + h)
		}
		p.far(floor + 1025)
		p.fresh(floor + 5)
		p.dups(floor, floor+9, floor+half, floor+4, floor-1, floor+half+1, floor+9, floor, floor, floor-1024, floor+4)
		p.dups()
		p.again(floor + 9)
		p.dups(floor + 9)
		p.dups()
		p.blocks([2]uint16{4, 5}, [2]uint16{9, 9})
	}
}

// P10.3: what is remembered stays as it was told, though the floor has gone up since.
func TestDupsWhenTheFloorGoesUp(t *testing.T) {
	for _, first := range firsts() {
		p := start(t, first)
		p.fresh(first + 1)
		p.again(first + 1)
		p.fresh(first)
		p.again(first)
		p.fresh(first + 2)
		p.dups(first+1, first)
	}
}

// P10.1, P10.3: of 63, 64, 65 and more numbers that were told twice the first 64 since the last Dups are told.
func TestDupsAtTheLimit(t *testing.T) {
	for _, floor := range []uint32{0, 20, half - 10, half, top - 20, top} {
		p := over(t, floor, rising(2, 200, 2)...)
		for _, count := range []int{0, 1, 63, 64, 65, 66, 128, 129, 200, 64, 1} {
			var want []uint32
			for i := range count {
				n := floor + uint32(i%100*2+2)
				switch i % 4 {
				case 1:
					n = floor
				case 2:
					n = floor - uint32(i)
				}
				p.again(n)
				if i < 64 {
					want = append(want, n)
				}
			}
			p.dups(want...)
		}
	}
}

// P10.3: one number told twice too often for the list.
func TestDupsOfOneNumber(t *testing.T) {
	for _, count := range []int{63, 64, 65, 1000} {
		p := over(t, 5, 3)
		for range count {
			p.again(8)
		}
		p.again(5)
		want := slices.Repeat([]uint32{8}, min(count, 64))
		if count < 64 {
			want = append(want, 5)
		}
		p.dups(want...)
	}
}

// checkNil asks what every call answers of a nil set.
func checkNil(t *testing.T, n uint32) {
	t.Helper()
	var s *gaps.Set
	if got := s.Add(n); got != gaps.Far {
		t.Errorf("nil: Add(%d) is %d", n, got)
	}
	if s.Has(n) {
		t.Errorf("nil: it has %d", n)
	}
	s.Forward(n)
	if s.Cum() != 0 || s.Len() != 0 || len(s.Blocks()) != 0 || len(s.Dups()) != 0 || s.Has(n) || s.Add(n) != gaps.Far {
		t.Errorf("nil, behind Add(%d) and Forward: %d, %d, %v, %v", n, s.Cum(), s.Len(), s.Blocks(), s.Dups())
	}
}

// P10.1 to P10.3: a nil set.
func TestNil(t *testing.T) {
	for _, floor := range floors {
		for _, h := range heights {
			checkNil(t, floor+h)
		}
	}
}

// The constants are what the chapter says.
func TestConstants(t *testing.T) {
	if gaps.Fresh != 0 || gaps.Twice != 1 || gaps.Far != 2 {
		t.Error(gaps.Fresh, gaps.Twice, gaps.Far)
	}
}
