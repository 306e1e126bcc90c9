package cookie

import (
	"iter"

	"bollard/octet"
)

// numbers hands on a state's numbers in the order in which they stand, 32 bits each: a time is two of them, Out and In are one together.
func numbers(s State) iter.Seq[uint32] {
	made, life := uint64(s.Made), uint64(s.Life)
	return func(yield func(uint32) bool) {
		_ = yield(high(made)) && yield(low(made)) && yield(high(life)) && yield(low(life)) &&
			yield(s.Tag) && yield(s.Peer) && yield(s.First) && yield(s.PeerFirst) && yield(s.Room) &&
			yield(s.Ties[0]) && yield(s.Ties[1]) &&
			yield(uint32(s.Out)<<16|uint32(s.In))
	}
}

// state is that whose numbers stand in octets, just as many as it takes. A time too great for an int is below 0 then, so that it is out of bounds either way.
func state(b []byte) State {
	r := octet.New(b)
	var s State
	s.Made, s.Life = int(read64(r)), int(read64(r))
	for _, n := range []*uint32{&s.Tag, &s.Peer, &s.First, &s.PeerFirst, &s.Room, &s.Ties[0], &s.Ties[1]} {
		*n, _ = r.Get32()
	}
	s.Out, _ = r.Get16()
	s.In, _ = r.Get16()
	return s
}

// read64 reads a number of 64 bits, which is there.
func read64(r *octet.Reader) uint64 {
	h, _ := r.Get32()
	l, _ := r.Get32()
	return uint64(h)<<32 | uint64(l)
}

// high is a number's higher half.
func high(n uint64) uint32 { return uint32(n >> 32) }

// low is a number's lower half.
func low(n uint64) uint32 { return uint32(n) }
