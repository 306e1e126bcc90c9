package xfer_test

import (
	"testing"

	"bollard/api"
	"bollard/xfer"
)

// kinds are all that are none of Data, Sack, Forward.
func kinds() []uint8 {
	var l []uint8
	for kind := range 256 {
		if kind != 0 && kind != 3 && kind != 192 {
			l = append(l, uint8(kind))
		}
	}
	return l
}

// P16.2: of a nil End ErrArg, whatever is heard.
func TestHearOfNil(t *testing.T) {
	var x *xfer.End
	for kind := range 256 {
		for _, c := range []api.Chunk{{Kind: uint8(kind)}, full(uint8(kind))} {
			for _, now := range []int{least, -1, 0, latest, greatest} {
				if got := x.Hear(c, now); got != api.ErrArg {
					t.Errorf("Hear(%v) is %v", c, got)
				}
			}
		}
	}
}

// P16.2: of every other kind ErrArg, and nothing comes of it.
func TestOtherKinds(t *testing.T) {
	p := usual(t)
	p.send(text(0, 1))
	p.tell(0)
	for _, kind := range kinds() {
		p.wrong(api.ErrArg, api.Chunk{Kind: kind})
		p.wrong(api.ErrArg, full(kind))
		c := flight(7, 0, text(0, 1))
		c.Kind = kind
		p.wrong(api.ErrArg, c)
		c = sack(100, 0)
		c.Kind = kind
		p.wrong(api.ErrArg, c)
	}
	p.tells(0)
	p.has()
	p.due(3000)
	p.cum(6)
}

// P16.2: Data that is new is joined, counted in the set, and an answer is owed.
func TestDataNew(t *testing.T) {
	for _, peer := range firsts {
		c := config()
		c.PeerFirst = peer
		p := start(t, c)
		p.hear(0, flight(peer, 0, text(1, 3)))
		p.idle(false)
		p.cum(peer)
		p.has(text(1, 3))
		p.tells(0, sack(peer, 65536))
		p.idle(true)
		p.hear(0, flight(peer+1, 0, freely(0, 4)), flight(peer+3, 2, text(1, 5)))
		p.cum(peer + 1)
		p.has(freely(0, 4))
		p.tells(0, sack(peer+1, 65531, block(2, 2)))
		p.hear(0, flight(peer+2, 1, text(1, 6)))
		p.cum(peer + 3)
		p.tells(0, sack(peer+3, 65536-11))
		p.has(text(1, 6), text(1, 5))
		p.tells(0)
		p.stands()
	}
}

// P16.2: pieces of a message, in any order.
func TestDataInPieces(t *testing.T) {
	p := usual(t)
	p.hear(0, piece(9, 1, 0, end, 6), piece(7, 1, 0, begin, 4))
	p.has()
	p.tells(0, sack(7, 65534, block(2, 2)))
	p.hear(0, piece(8, 1, 0, 0, 5))
	p.cum(9)
	p.has(textOf(1, 4, 5, 6))
	p.tells(0, sack(9, 65536))
}

// P16.2: what comes twice is told as a duplicate, an answer is owed, and it is not joined once more.
func TestDataTwice(t *testing.T) {
	for _, peer := range firsts {
		c := config()
		c.PeerFirst = peer
		p := start(t, c)
		p.hear(0, flight(peer, 0, freely(1, 3)), flight(peer+2, 0, freely(1, 4)))
		p.has(freely(1, 3), freely(1, 4))
		p.tells(0, sack(peer, 65536, block(2, 2)))
		for _, n := range []uint32{peer, peer + 2, peer - 1, peer - 1000, peer + half, peer + half + 1} {
			p.hear(0, flight(n, 0, freely(1, 3)))
			p.idle(false)
			p.has()
			p.tells(0, twice(sack(peer, 65536, block(2, 2)), n))
			p.idle(true)
		}
		p.hear(0, flight(peer+2, 0, freely(1, 9)), flight(peer, 0, freely(0, 9)), flight(peer+2, 0, freely(1, 9)))
		p.has()
		p.tells(0, twice(sack(peer, 65536, block(2, 2)), peer+2, peer, peer+2))
	}
}

// P16.2: of what comes twice nothing but its number is looked at: join is not asked.
func TestDataTwiceThatIsWrong(t *testing.T) {
	p := usual(t)
	p.hear(0, flight(7, 0, text(1, 3)))
	p.tell(0)
	p.hear(0, flight(7, 0, text(1, 0)), flight(7, 0, text(2, 1)), flight(6, 0, text(65535, 1)), flight(5, 0, text(0, 65536)))
	p.tells(0, twice(sack(7, 65533), 7, 7, 6, 5))
}

// P16.2: a piece that is held already is not refused, but told as a duplicate.
func TestPieceTwice(t *testing.T) {
	p := usual(t)
	p.hear(0, piece(8, 1, 0, end, 1, 2), piece(8, 1, 0, end, 1, 2))
	p.tells(0, twice(sack(6, 65534, block(2, 2)), 8))
	p.hear(0, piece(7, 1, 0, begin, 3), piece(7, 1, 0, begin, 3))
	p.has(textOf(1, 3, 1, 2))
	p.tells(0, twice(sack(8, 65536), 7))
}

// P16.2: ErrFull of a height above 1024: nothing is kept, and no answer is owed.
func TestDataTooFar(t *testing.T) {
	for _, peer := range firsts {
		c := config()
		c.PeerFirst = peer
		p := start(t, c)
		floor := peer - 1
		for _, height := range []uint32{1025, 1026, 2000, 65536, half - 1025, half - 2, half - 1} {
			p.wrong(api.ErrFull, flight(floor+height, 0, freely(1, 3)))
			p.wrong(api.ErrFull, flight(floor+height, 0, text(1, 0)))
			p.wrong(api.ErrFull, flight(floor+height, 0, text(2, 1)))
			p.idle(true)
			p.has()
			p.tells(0)
		}
		p.hear(0, flight(floor+1024, 0, freely(1, 3)))
		p.has(freely(1, 3))
		p.tells(0, sack(floor, 65536, block(1024, 1024)))
		p.wrong(api.ErrFull, flight(floor+1025, 0, freely(1, 3)))
		p.hear(0, flight(peer, 0, freely(1, 4)), flight(floor+1025, 0, freely(1, 5)))
		p.has(freely(1, 4), freely(1, 5))
		p.tells(0, sack(peer, 65536, block(1023, 1024)))
	}
}

// P16.2: with an error of join nothing is kept, and no answer is owed by it.
func TestDataThatJoinRefuses(t *testing.T) {
	for _, x := range []struct {
		c    api.Chunk
		want api.Errno
	}{
		{flight(7, 0, text(1, 0)), api.ErrArg}, {api.Chunk{A: 9}, api.ErrArg}, {flight(10, 0, text(2, 0)), api.ErrArg},
		{flight(7, 0, text(2, 1)), api.ErrName}, {flight(10, 0, freely(65535, 1)), api.ErrName}, {flight(7, 0, text(2, 65537)), api.ErrName},
		{flight(7, 0, text(1, 65537)), api.ErrFull}, {flight(1030, 0, text(1, 65537)), api.ErrFull},
	} {
		p := usual(t)
		p.wrong(x.want, x.c)
		p.idle(true)
		p.cum(6)
		p.has()
		p.tells(0)
		p.hear(0, flight(8, 0, freely(1, 1)))
		p.wrong(x.want, x.c)
		p.tells(0, sack(6, 65535, block(2, 2)))
		p.wrong(x.want, x.c)
		p.idle(true)
		p.hear(0, flight(7, 0, text(1, 2)))
		p.has(freely(1, 1), text(1, 2))
		p.tells(0, sack(8, 65536))
	}
}

// P16.2: join is full at 65536 octets; what was refused may come once more when there is room.
func TestDataWithoutRoom(t *testing.T) {
	p := usual(t)
	p.hear(0, flight(8, 1, text(1, 65536)))
	p.tells(0, sack(6, 0, block(2, 2)))
	p.wrong(api.ErrFull, flight(7, 0, text(1, 1)))
	p.idle(true)
	p.cum(6)
	p.hear(0, forward(7, hop(1, 0)))
	p.wrong(api.ErrFull, flight(9, 0, text(0, 1)))
	p.tells(0, sack(8, 0))
	p.wrong(api.ErrFull, flight(9, 0, text(0, 1)))
	p.has(text(1, 65536))
	p.hear(0, flight(9, 0, text(0, 1)))
	p.has(text(0, 1))
	p.tells(0, sack(9, 65536))
}

// P16.2: join holds a number that the set has no more, once the floor has gone round by Forwards.
func TestDataThatJoinHoldsStill(t *testing.T) {
	p := usual(t)
	p.hear(0, piece(7, 1, 0, begin, 1), piece(8, 0, 0, begin, 2))
	p.tell(0)
	for _, n := range []uint32{8 + half - 1, 8 + half, 5} {
		p.hear(0, forward(n))
	}
	p.tells(0, sack(5, 65535))
	p.wrong(api.ErrState, piece(7, 1, 0, begin, 1))
	p.idle(true)
	p.cum(5)
	p.hear(0, piece(6, 1, 0, begin, 1))
	p.tells(0, sack(6, 65534))
}

// P16.2: numbers go round, of chunks and of a stream's messages.
func TestDataGoesRound(t *testing.T) {
	c := config()
	c.PeerFirst = top - 1
	p := start(t, c)
	p.hear(0, flight(1, 3, text(1, 4)), flight(top, 1, text(1, 2)), flight(0, 2, text(1, 3)))
	p.tells(0, sack(top-2, 65536-9, block(2, 4)))
	p.hear(0, flight(top-1, 0, text(1, 1)), flight(top, 1, text(1, 2)))
	p.cum(1)
	p.has(text(1, 1), text(1, 2), text(1, 3), text(1, 4))
	p.tells(0, twice(sack(1, 65536), top))
	p.hear(0, forward(2, hop(1, 32767)), forward(3, hop(1, 65533)))
	p.hear(0, flight(6, 0, text(1, 7)), flight(5, 65535, text(1, 6)), flight(4, 65534, text(1, 5)))
	p.has(text(1, 5), text(1, 6), text(1, 7))
}
