package octet_test

import (
	"bytes"
	"math"
	"math/rand"
	"testing"

	"bollard/api"
	"bollard/octet"
)

// P1.4: numbers at the edges are got as they were put.
func TestNumbersThereAndBack(t *testing.T) {
	for _, v := range []uint32{0, 1, 127, 128, 255, 256, 258, 32768, 65535, 65536, 1<<24 - 1, 1 << 24, 1 << 31, 1<<32 - 1} {
		b := octet.Put32(octet.Put16(octet.Put8(nil, uint8(v)), uint16(v)), v)
		r := octet.New(b)
		v8, e8 := r.Get8()
		v16, e16 := r.Get16()
		v32, e32 := r.Get32()
		if v8 != uint8(v) || v16 != uint16(v) || v32 != v || e8 != api.OK || e16 != api.OK || e32 != api.OK || r.Left() != 0 {
			t.Errorf("%d: %d, %d, %d (%v, %v, %v), %d left", v, v8, v16, v32, e8, e16, e32, r.Left())
		}
	}
}

// P1.4: Pad of n octets makes what the reader's Pad(n) reads.
func TestPadThereAndBack(t *testing.T) {
	for n := range 41 {
		b := bytes.Repeat([]byte{200}, n)
		r := octet.New(octet.Pad(b))
		if got, err := r.Bytes(n); err != api.OK || !bytes.Equal(got, b) {
			t.Errorf("%d octets: %v, %v", n, got, err)
		}
		if err := r.Pad(n); err != api.OK || r.Left() != 0 {
			t.Errorf("%d octets: %v, %d left", n, err, r.Left())
		}
	}
}

// put is one call of a row, and what was put by it.
type put struct {
	kind int
	v    uint32
	data []byte
}

// P1.4: rows of calls, drawn from a fixed seed, are got by the same calls in the same order.
func TestRowsThereAndBack(t *testing.T) {
	draw := rand.New(rand.NewSource(1))
	for range 500 {
		var row []put
		for range draw.Intn(12) {
			data := make([]byte, draw.Intn(10))
			draw.Read(data)
			row = append(row, put{draw.Intn(4), draw.Uint32(), data})
		}
		r := octet.New(putRow(row))
		getRow(t, row, r)
		if r.Left() != 0 {
			t.Errorf("%v: %d left", row, r.Left())
		}
	}
}

func putRow(row []put) []byte {
	var b []byte
	for _, p := range row {
		switch p.kind {
		case 0:
			b = octet.Put8(b, uint8(p.v))
		case 1:
			b = octet.Put16(b, uint16(p.v))
		case 2:
			b = octet.Put32(b, p.v)
		default:
			b = append(b, octet.Pad(p.data)...)
		}
	}
	return b
}

func getRow(t *testing.T, row []put, r *octet.Reader) {
	t.Helper()
	for _, p := range row {
		if p.kind < 3 {
			g := gets[p.kind]
			want := p.v & uint32(1<<(8*g.size)-1)
			if v, err := g.get(r); v != want || err != api.OK {
				t.Errorf("%v: %s is %d, %v", row, g.name, v, err)
			}
			continue
		}
		if b, err := r.Bytes(len(p.data)); !bytes.Equal(b, p.data) || err != api.OK {
			t.Errorf("%v: Bytes is %v, %v", row, b, err)
		}
		if err := r.Pad(len(p.data)); err != api.OK {
			t.Errorf("%v: Pad is %v", row, err)
		}
	}
}

// P1: every call ends without a panic at every argument, and beside an error nothing is answered or read.
func TestEveryArgument(t *testing.T) {
	ns := []int{math.MinInt, math.MinInt + 1, -5, -4, -3, -2, -1, 0, 1, 2, 3, 4, 5, 6, 7, 8, 9, math.MaxInt32, math.MaxInt - 1, math.MaxInt}
	for left := range 9 {
		for _, filler := range []byte{0, 1} {
			for _, n := range ns {
				b := bytes.Repeat([]byte{filler}, left)
				r := octet.New(b)
				if got, err := r.Bytes(n); err != api.OK && (got != nil || r.Left() != left) {
					t.Errorf("Bytes(%d) of %v: %v beside %v, %d left", n, b, got, err, r.Left())
				}
				r = octet.New(b)
				if err := r.Pad(n); err != api.OK && r.Left() != left {
					t.Errorf("Pad(%d) of %v: %v, %d left", n, b, err, r.Left())
				}
			}
		}
	}
}
