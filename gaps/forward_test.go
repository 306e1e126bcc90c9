package gaps_test

import "testing"

// P10.2: a set has what is at its floor, and what is half of the way round or more above it, that is below it.
func TestHasByHeight(t *testing.T) {
	for _, floor := range floors {
		p := over(t, floor)
		for _, c := range []struct {
			height uint32
			want   bool
		}{
			{0, true}, {1, false}, {2, false}, {1023, false}, {1024, false}, {1025, false}, {65536, false}, {half - 2, false}, {half - 1, false},
			{half, true}, {half + 1, true}, {half + 1024, true}, {top - 1024, true}, {top - 1, true}, {top, true},
		} {
			if got := p.set.Has(floor + c.height); got != c.want {
				t.Errorf("over %d: Has at the height %d is %v", floor, c.height, got)
			}
			p.has(floor + c.height)
		}
	}
}

// P10.2: above its floor a set has what is in it, and nothing beside that.
func TestHasWhatIsThere(t *testing.T) {
	for _, floor := range floors {
		over(t, floor, 2).hasAll(2)
		over(t, floor, 1023).hasAll(1023)
		over(t, floor, 1024).hasAll(1024)
		p := over(t, floor, 1024, 2, 500, 3, 1023)
		p.hasAll(2, 3, 500, 1023, 1024)
		p.far(floor + 1025)
		p.far(floor + half - 1)
		p.hasAll(2, 3, 500, 1023, 1024)
		p.fresh(floor + 1)
		p.hasAll(497, 1020, 1021)
	}
}

// P10.2: asking changes nothing.
func TestHasKeepsNothing(t *testing.T) {
	for _, floor := range floors {
		p := over(t, floor, 2, 5)
		p.again(floor + 5)
		for _, h := range heights {
			p.has(floor + h)
			p.has(floor + h)
		}
		p.hasAll(2, 5)
		p.dups(floor + 5)
		p.fresh(floor + 1)
		p.cum(floor + 2)
	}
}

// P10.2: forward to the floor, or half of the way round or more above it, is nothing.
func TestForwardNothing(t *testing.T) {
	for _, floor := range floors {
		p := over(t, floor, 2, 3, 6, 1024)
		p.again(floor + 2)
		for _, h := range []uint32{0, half, half + 1, half + 1024, 3 << 30, top - 1024, top - 1, top} {
			p.forward(floor + h)
			p.cum(floor)
			p.blocks([2]uint16{2, 3}, [2]uint16{6, 6}, [2]uint16{1024, 1024})
			p.length(4)
		}
		p.dups(floor + 2)
	}
}

// P10.2: forward takes the floor to a number, what is not above it is told no more, and the floor goes on up.
func TestForward(t *testing.T) {
	for _, c := range []struct {
		name   string
		to     uint32 // a height, as all that follow
		floor  uint32
		blocks [][2]uint16
		len    int
	}{
		{"height 1, just below a run", 1, 3, [][2]uint16{{3, 4}, {7, 7}, {9, 10}, {1021, 1021}}, 6},
		{"a run's first number", 2, 3, [][2]uint16{{3, 4}, {7, 7}, {9, 10}, {1021, 1021}}, 6},
		{"a run's last number", 3, 3, [][2]uint16{{3, 4}, {7, 7}, {9, 10}, {1021, 1021}}, 6},
		{"between runs", 4, 4, [][2]uint16{{2, 3}, {6, 6}, {8, 9}, {1020, 1020}}, 6},
		{"just below another run", 5, 7, [][2]uint16{{3, 3}, {5, 6}, {1017, 1017}}, 4},
		{"behind a run", 8, 8, [][2]uint16{{2, 2}, {4, 5}, {1016, 1016}}, 4},
		{"just below one number", 9, 10, [][2]uint16{{2, 3}, {1014, 1014}}, 3},
		{"one number", 10, 10, [][2]uint16{{2, 3}, {1014, 1014}}, 3},
		{"just below the third run", 11, 13, [][2]uint16{{1011, 1011}}, 1},
		{"in the third run", 12, 13, [][2]uint16{{1011, 1011}}, 1},
		{"far below the last number", 500, 500, [][2]uint16{{524, 524}}, 1},
		{"two below the last number", 1022, 1022, [][2]uint16{{2, 2}}, 1},
		{"just below the last number", 1023, 1024, nil, 0},
		{"the last number", 1024, 1024, nil, 0},
		{"beyond all", 1025, 1025, nil, 0},
		{"farther", 1026, 1026, nil, 0},
		{"as far as 16 bits go", 65536, 65536, nil, 0},
		{"behind what 16 bits tell", 65538, 65538, nil, 0},
		{"a quarter round", 1 << 30, 1 << 30, nil, 0},
		{"nearly half of the way round", half - 2, half - 2, nil, 0},
		{"the farthest", half - 1, half - 1, nil, 0},
	} {
		for _, floor := range floors {
			p := over(t, floor, 2, 3, 6, 7, 10, 12, 13, 1024)
			p.forward(floor + c.to)
			if got := p.set.Cum(); got != floor+c.floor {
				t.Errorf("%s: over %d: Cum is %d, want %d", c.name, floor, got, floor+c.floor)
			}
			p.blocks(c.blocks...)
			p.length(c.len)
			p.again(floor + c.to)
			p.again(floor)
			p.again(floor + 2)
			p.dups(floor+c.to, floor, floor+2)
			p.forward(floor)
			p.forward(floor + c.to)
			p.cum(floor + c.floor)
		}
	}
}

// P10.2: forward from an empty set, by each height.
func TestForwardOverNothing(t *testing.T) {
	for _, floor := range floors {
		for _, h := range []uint32{1, 2, 63, 1023, 1024, 1025, 65535, 65536, 1 << 30, half - 1} {
			p := over(t, floor)
			p.forward(floor + h)
			p.cum(floor + h)
			p.hasAll()
			p.dups()
			p.fresh(floor + h + 1)
			p.cum(floor + h + 1)
		}
	}
}

// P10.2: what was told twice is not forgotten when the floor goes past it.
func TestForwardKeepsDups(t *testing.T) {
	for _, floor := range floors {
		p := over(t, floor, 5, 9)
		p.again(floor + 5)
		p.again(floor)
		p.forward(floor + 7)
		p.again(floor + 6)
		p.again(floor + 9)
		p.forward(floor + 20000)
		p.dups(floor+5, floor, floor+6, floor+9)
	}
}

// P10.2: what the floor went past is there no more, even when the floor has gone all the way round and stands below it again.
func TestForwardAllTheWayRound(t *testing.T) {
	for _, floor := range floors {
		p := over(t, floor, 5, 6, 900)
		p.forward(floor + half - 1)
		p.hasAll()
		p.forward(floor + 2*(half-1))
		p.hasAll()
		p.forward(floor)
		p.cum(floor)
		p.hasAll()
		p.fresh(floor + 5)
		p.fresh(floor + 1)
		p.cum(floor + 1)
		p.blocks([2]uint16{4, 4})
		p.dups()
	}
}

// P10.2: forward step by step comes to where one step does, as long as nothing is added on the way.
func TestForwardBySteps(t *testing.T) {
	for _, floor := range floors {
		steps, once := over(t, floor, 3, 4, 8, 12, 13), over(t, floor, 3, 4, 8, 12, 13)
		for h := range uint32(11) {
			steps.forward(floor + h)
		}
		once.forward(floor + 10)
		steps.cum(once.set.Cum())
		steps.blocks([2]uint16{2, 3})
		once.blocks([2]uint16{2, 3})
	}
}

// P10.2: Len counts what is above the floor alone, and more than Blocks tells.
func TestLen(t *testing.T) {
	for _, floor := range floors {
		p := over(t, floor)
		for i, h := range rising(2, 400, 2) {
			p.fresh(floor + h)
			p.length(i + 1)
			p.again(floor + h)
			p.length(i + 1)
		}
		p.fresh(floor + 1)
		p.length(199)
		p.fresh(floor + 3)
		p.length(198)
		p.forward(floor + 101)
		p.length(149)
		p.forward(floor + 398)
		p.length(1)
		p.forward(floor + 399)
		p.length(0)
		p.cum(floor + 400)
	}
}
