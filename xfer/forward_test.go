package xfer_test

import "testing"

// P16.2: a Forward above the floor: the set goes up to it, join skips, and an answer is owed.
func TestForwardAbove(t *testing.T) {
	for _, peer := range firsts {
		for _, height := range []uint32{1, 2, 1024, 1025, 65536, half - 1} {
			c := config()
			c.PeerFirst = peer
			p := start(t, c)
			p.hear(0, forward(peer-1+height))
			p.idle(false)
			p.cum(peer - 1 + height)
			p.tells(0, sack(peer-1+height, 65536))
			p.idle(true)
		}
	}
}

// P16.2: at the floor and below it nothing is skipped, but an answer is owed each time.
func TestForwardBelow(t *testing.T) {
	for _, peer := range firsts {
		c := config()
		c.PeerFirst = peer
		p := start(t, c)
		floor := peer - 1
		p.hear(0, piece(peer+1, 1, 0, begin, 5), flight(peer+3, 2, text(0, 1)))
		p.tells(0, sack(floor, 65534, block(2, 2), block(4, 4)))
		for _, n := range []uint32{floor, floor - 1, floor - 2, floor - 1000, floor + half, floor + half + 1} {
			p.hear(0, forward(n, hop(0, 1), hop(1, 9)))
			p.idle(false)
			p.cum(floor)
			p.has()
			p.tells(0, sack(floor, 65534, block(2, 2), block(4, 4)))
			p.idle(true)
		}
		p.hear(0, flight(peer+4, 0, text(0, 2)), flight(peer+5, 1, text(0, 3)))
		p.has(text(0, 2), text(0, 3), text(0, 1))
	}
}

// P16.2: what is skipped, and what had come beyond it.
func TestForwardWithSkips(t *testing.T) {
	for _, peer := range firsts {
		c := config()
		c.PeerFirst = peer
		p := start(t, c)
		p.hear(0, piece(peer+1, 1, 0, 0, 5, 6), flight(peer+3, 2, text(0, 1)), flight(peer+5, 1, text(1, 2)), piece(peer+6, 1, 2, begin, 7))
		p.hear(0, forward(peer+2, hop(0, 1), hop(1, 0), hop(2, 5), hop(65535, 5)))
		p.cum(peer + 3)
		p.has(text(0, 1), text(1, 2))
		p.tells(0, sack(peer+3, 65535, block(2, 3)))
		p.hear(0, flight(peer+4, 3, text(0, 3)), piece(peer+7, 1, 2, end, 8))
		p.has(text(0, 3), textOf(1, 7, 8))
		p.tells(0, sack(peer+7, 65536))
	}
}

// P16.2: the pieces up to the number are dropped, though no stream is skipped.
func TestForwardDropsPieces(t *testing.T) {
	p := usual(t)
	p.hear(0, piece(8, 1, 0, begin|loose, 1, 2, 3), piece(10, 1, 0, begin|loose, 4))
	p.tells(0, sack(6, 65532, block(2, 2), block(4, 4)))
	p.hear(0, forward(9))
	p.tells(0, sack(10, 65535))
	p.hear(0, piece(11, 1, 0, end|loose, 5))
	m := textOf(1, 4, 5)
	m.Unordered = true
	p.has(m)
}

// P16.2: the same Forward twice, and one that is late.
func TestForwardTwice(t *testing.T) {
	p := usual(t)
	p.hear(0, forward(9, hop(0, 3)), forward(9, hop(0, 3)), forward(8, hop(0, 9)))
	p.tells(0, sack(9, 65536))
	p.tells(0)
	p.hear(0, forward(9, hop(0, 9)))
	p.tells(0, sack(9, 65536))
	p.hear(0, flight(10, 4, text(0, 1)))
	p.has(text(0, 1))
}

// P16.2: a Forward skips more than 64 streams' numbers, as far as there are such streams.
func TestForwardWithManySkips(t *testing.T) {
	c := config()
	c.In = 64
	p := start(t, c)
	f := forward(7)
	for i := range uint16(100) {
		f.Skips = append(f.Skips, hop(99-i, 2*(99-i)))
	}
	p.hear(0, f)
	for i := range uint16(64) {
		p.hear(0, flight(8+uint32(i), 2*i+1, text(i, 1)))
		p.has(text(i, 1))
	}
}
