// Package octet is layer 1, numbers in octets, the highest first: see shared/doc/01-octet.md.
package octet

import "bollard/api"

// Put8 puts a number of 8 bits behind octets.
func Put8(b []byte, v uint8) []byte { return lay(b, v) }

// Put16 puts a number of 16 bits behind octets.
func Put16(b []byte, v uint16) []byte { return lay(b, byte(v>>8), byte(v)) }

// Put32 puts a number of 32 bits behind octets.
func Put32(b []byte, v uint32) []byte {
	return lay(b, byte(v>>24), byte(v>>16), byte(v>>8), byte(v))
}

// Pad fills octets up to a multiple of four.
func Pad(b []byte) []byte { return lay(b, make([]byte, fillers(len(b)))...) }

// lay puts octets behind b. All are copied, as append could write into what b shares with others.
func lay(b []byte, behind ...byte) []byte {
	out := make([]byte, len(b)+len(behind))
	n := copy(out, b)
	copy(out[n:], behind)
	return out
}

// fillers is how many octets n lacks to a multiple of four. Nothing is added to n, as it may be the greatest number.
func fillers(n int) int { return (4 - n%4) % 4 }

// Reader reads octets, which it keeps in memory of its own.
type Reader struct {
	rest []byte
}

// New is a reader at the first octet.
func New(b []byte) *Reader { return &Reader{rest: lay(b)} }

// Left is how many octets are left.
func (r *Reader) Left() int {
	if r == nil {
		return 0
	}
	return len(r.rest)
}

// Get8 reads a number of 8 bits.
func (r *Reader) Get8() (uint8, api.Errno) {
	v, err := r.number(1)
	return uint8(v), err
}

// Get16 reads a number of 16 bits.
func (r *Reader) Get16() (uint16, api.Errno) {
	v, err := r.number(2)
	return uint16(v), err
}

// Get32 reads a number of 32 bits.
func (r *Reader) Get32() (uint32, api.Errno) { return r.number(4) }

// Bytes reads octets.
func (r *Reader) Bytes(n int) ([]byte, api.Errno) {
	b, err := r.next(n)
	if err != api.OK {
		return nil, err
	}
	r.skip(n)
	return lay(b), api.OK
}

// Pad reads what fills up n octets.
func (r *Reader) Pad(n int) api.Errno {
	if n < 0 {
		return api.ErrArg
	}
	k := fillers(n)
	b, err := r.next(k)
	if err != api.OK {
		return err
	}
	for _, v := range b {
		if v != 0 {
			return api.ErrForm
		}
	}
	r.skip(k)
	return api.OK
}

// number reads a number of n octets, of which there are at most 4.
func (r *Reader) number(n int) (uint32, api.Errno) {
	b, err := r.next(n)
	if err != api.OK {
		return 0, err
	}
	v := uint32(0)
	for _, x := range b {
		v = v<<8 | uint32(x)
	}
	r.skip(n)
	return v, api.OK
}

// next is a look at the next n octets, without reading them. The third index ends it there, so that nothing laid behind it can reach octets that are still to be read.
func (r *Reader) next(n int) ([]byte, api.Errno) {
	if r == nil || n < 0 {
		return nil, api.ErrArg
	}
	if n > len(r.rest) {
		return nil, api.ErrShort
	}
	return r.rest[:n:n], api.OK
}

// skip goes behind the next n octets, which next has told are there.
func (r *Reader) skip(n int) { r.rest = r.rest[n:] }
