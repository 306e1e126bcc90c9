package gaps_test

import (
	"slices"
	"testing"

	"bollard/gaps"
)

// P10.1: a new set's floor is first - 1, and it has nothing above it.
func TestNew(t *testing.T) {
	for _, c := range []struct{ first, floor uint32 }{
		{0, 4294967295}, {1, 0}, {2, 1}, {10, 9}, {1 << 16, 65535}, {1<<31 - 1, 1<<31 - 2}, {1 << 31, 1<<31 - 1}, {1<<31 + 1, 1 << 31}, {4294967294, 4294967293}, {4294967295, 4294967294},
	} {
		p := start(t, c.first)
		p.cum(c.floor)
	}
	for _, first := range firsts() {
		p := start(t, first)
		p.cum(first - 1)
		p.blocks()
		p.hasAll()
		p.dups()
	}
}

// P10.1: what Add tells of a number hangs on its height, wherever the floor is, and whether it goes round on the way.
func TestAddByHeight(t *testing.T) {
	for _, floor := range floors {
		for _, c := range []struct {
			height uint32
			want   int
		}{
			{0, gaps.Twice}, {1, gaps.Fresh}, {2, gaps.Fresh}, {3, gaps.Fresh}, {100, gaps.Fresh}, {1023, gaps.Fresh}, {1024, gaps.Fresh},
			{1025, gaps.Far}, {1026, gaps.Far}, {65535, gaps.Far}, {65536, gaps.Far}, {65538, gaps.Far}, {1 << 30, gaps.Far}, {half - 2, gaps.Far}, {half - 1, gaps.Far},
			{half, gaps.Twice}, {half + 1, gaps.Twice}, {half + 1024, gaps.Twice}, {3 << 30, gaps.Twice}, {top - 1024, gaps.Twice}, {top - 1, gaps.Twice}, {top, gaps.Twice},
		} {
			p := over(t, floor)
			p.add(floor+c.height, c.want)
			switch {
			case c.want != gaps.Fresh:
				p.hasAll()
				p.cum(floor)
			case c.height == 1:
				p.hasAll()
				p.cum(floor + 1)
			default:
				p.hasAll(c.height)
				p.cum(floor)
			}
			if c.want == gaps.Twice {
				p.dups(floor + c.height)
			} else {
				p.dups()
			}
		}
	}
}

// P10.1: at Far nothing changes: not the floor, not what is above it, not what was told twice.
func TestFarChangesNothing(t *testing.T) {
	for _, floor := range floors {
		p := over(t, floor, 2, 3, 7, 1023, 1024)
		p.again(floor + 3)
		p.again(floor)
		for _, h := range []uint32{1025, 1026, 2047, 2048, 65537, 65538, 1 << 30, half - 1} {
			p.far(floor + h)
			p.far(floor + h)
			p.cum(floor)
			p.blocks([2]uint16{2, 3}, [2]uint16{7, 7}, [2]uint16{1023, 1024})
			p.length(5)
		}
		p.dups(floor+3, floor)
		p.fresh(floor + 1)
		p.cum(floor + 3)
		p.hasAll(4, 1020, 1021)
	}
}

// P10.1: what was too far is Fresh, and not known from before, once the floor has come nearer.
func TestFarThenNear(t *testing.T) {
	for _, floor := range floors {
		p := over(t, floor)
		p.far(floor + 1025)
		p.far(floor + 1026)
		p.fresh(floor + 1)
		p.far(floor + 1026)
		p.fresh(floor + 1025)
		p.again(floor + 1025)
		p.fresh(floor + 2)
		p.fresh(floor + 1026)
		p.dups(floor + 1025)
		p.blocks([2]uint16{1023, 1024})
	}
}

// P10.1: a number that is there, right at the floor or below it is told twice, and changes nothing but that.
func TestAddTwice(t *testing.T) {
	for _, floor := range floors {
		p := over(t, floor, 2, 4, 5, 1024)
		for _, h := range []uint32{2, 4, 5, 1024, 0, top, top - 1, half, half + 1} {
			p.again(floor + h)
			p.again(floor + h)
			p.blocks([2]uint16{2, 2}, [2]uint16{4, 5}, [2]uint16{1024, 1024})
			p.cum(floor)
			p.length(4)
			p.dups(floor+h, floor+h)
		}
	}
}

// P10.1: a number that was added is told twice when the floor has reached it, and when it has gone past.
func TestAddTwicePassed(t *testing.T) {
	for _, first := range firsts() {
		p := start(t, first)
		p.fresh(first + 1)
		p.again(first + 1)
		p.fresh(first)
		p.again(first + 1)
		p.again(first)
		p.fresh(first + 2)
		p.again(first + 2)
		p.again(first + 1)
		p.again(first)
		p.again(first - 1)
		p.dups(first+1, first+1, first, first+2, first+1, first, first-1)
	}
}

// P10.1: numbers that come in order take the floor with them, one by one, across 2^32 - 1 too.
func TestFloorGoesUpInOrder(t *testing.T) {
	for _, first := range firsts() {
		p := start(t, first)
		for i := range uint32(70) {
			p.fresh(first + i)
			p.cum(first + i)
			p.length(0)
			p.blocks()
		}
		p.dups()
	}
}

// P10.1: the floor goes up over all that is there, and stops at the first number that is not.
func TestFloorGoesUpOverRuns(t *testing.T) {
	for _, floor := range floors {
		p := over(t, floor, 2, 3, 4, 6, 7, 9, 11, 12)
		p.fresh(floor + 5)
		p.cum(floor)
		p.blocks([2]uint16{2, 7}, [2]uint16{9, 9}, [2]uint16{11, 12})
		p.length(9)
		p.fresh(floor + 1)
		p.cum(floor + 7)
		p.blocks([2]uint16{2, 2}, [2]uint16{4, 5})
		p.length(3)
		p.fresh(floor + 10)
		p.cum(floor + 7)
		p.blocks([2]uint16{2, 5})
		p.fresh(floor + 8)
		p.cum(floor + 12)
		p.hasAll()
	}
}

// P10.1: the run may be as long as it gets: from the height 2 up to 1024, added either way round.
func TestFloorGoesUpOverLongest(t *testing.T) {
	for _, floor := range []uint32{0, half - 500, top - 500, top} {
		for _, backwards := range []bool{false, true} {
			long := rising(2, 1024, 1)
			if backwards {
				slices.Reverse(long)
			}
			p := over(t, floor, long...)
			p.blocks([2]uint16{2, 1024})
			p.length(1023)
			p.far(floor + 1025)
			p.fresh(floor + 1)
			p.cum(floor + 1024)
			p.hasAll()
			p.again(floor + 1024)
			p.fresh(floor + 1025)
			p.dups(floor + 1024)
		}
	}
}

// P10.1: where the floor stops between two numbers beside each other, at each place of a row.
func TestFloorStops(t *testing.T) {
	for _, floor := range floors {
		for hole := uint32(2); hole < 12; hole++ {
			p := over(t, floor)
			for h := uint32(12); h > 0; h-- {
				if h != hole {
					p.fresh(floor + h)
				}
			}
			p.cum(floor + hole - 1)
			p.blocks([2]uint16{2, uint16(13 - hole)})
			p.length(int(12 - hole))
			p.fresh(floor + hole)
			p.cum(floor + 12)
			p.hasAll()
		}
	}
}
