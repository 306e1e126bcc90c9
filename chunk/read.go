package chunk

import (
	"bollard/api"
	"bollard/octet"
	"bollard/tlv"
)

// Decode is the first chunk of octets, and how many of them it takes.
func Decode(b []byte) (api.Chunk, int, api.Errno) {
	r := reader{Reader: octet.New(b)}
	c := api.Chunk{Kind: r.octet(), Flags: r.octet()}
	length := int(r.half())
	if length < head {
		r.tell(api.ErrForm)
	}
	// A reader of the fields' octets alone can not reach what stands behind them.
	in := reader{Reader: octet.New(r.octets(length - head))}
	for _, f := range fields(c.Kind) {
		in.read(&c, f)
	}
	if in.Left() > 0 {
		in.tell(api.ErrForm)
	}
	r.tell(in.err)
	r.tell(r.Pad(length))
	if r.err != api.OK {
		return api.Chunk{}, 0, r.err
	}
	return c, len(b) - r.Left(), api.OK
}

// reader keeps the first error that it meets; what is read behind that one counts no more.
type reader struct {
	*octet.Reader
	err api.Errno
}

// tell keeps an error, unless there was one.
func (r *reader) tell(err api.Errno) {
	if r.err == api.OK {
		r.err = err
	}
}

// octet reads a number of 8 bits.
func (r *reader) octet() uint8 {
	v, err := r.Get8()
	r.tell(err)
	return v
}

// half reads a number of 16 bits.
func (r *reader) half() uint16 {
	v, err := r.Get16()
	r.tell(err)
	return v
}

// word reads a number of 32 bits.
func (r *reader) word() uint32 {
	v, err := r.Get32()
	r.tell(err)
	return v
}

// octets reads n octets.
func (r *reader) octets(n int) []byte {
	b, err := r.Bytes(n)
	r.tell(err)
	return b
}

// read reads a field of a chunk whose kind is known.
func (r *reader) read(c *api.Chunk, f field) {
	switch f {
	case fieldA:
		c.A = r.word()
	case fieldB:
		c.B = r.word()
	case fieldOut:
		c.Out = r.half()
	case fieldIn:
		c.In = r.half()
	case fieldPpid:
		c.Ppid = r.word()
	case fieldReport:
		c.Blocks, c.Dups = r.report()
	case fieldSkips:
		c.Skips = r.skips()
	case fieldParams:
		l, err := tlv.Decode(r.octets(r.Left()))
		r.tell(err)
		c.Params = l
	default:
		c.Data = r.data(c.Kind)
	}
}

// report reads how many Blocks and Dups there are, and these.
func (r *reader) report() ([]api.Block, []uint32) {
	blocks, dups := r.half(), r.half()
	if max(blocks, dups) > api.MaxBlocks {
		r.tell(api.ErrLarge)
		return nil, nil
	}
	var runs []api.Block
	for range blocks {
		runs = append(runs, api.Block{From: r.half(), To: r.half()})
	}
	var twice []uint32
	for range dups {
		twice = append(twice, r.word())
	}
	return runs, twice
}

// skips reads Skips to the end.
func (r *reader) skips() []api.Skip {
	var l []api.Skip
	for r.err == api.OK && r.Left() > 0 {
		switch {
		case r.Left() < 4:
			r.tell(api.ErrForm)
		case len(l) == api.MaxBlocks:
			r.tell(api.ErrLarge)
		default:
			l = append(l, api.Skip{Stream: r.half(), Ssn: r.half()})
		}
	}
	return l
}

// data reads octets to the end.
func (r *reader) data(kind uint8) []byte {
	b := r.octets(r.Left())
	if len(b) > api.MaxPacket {
		r.tell(api.ErrLarge)
	}
	if len(b) == 0 && kind == api.Data {
		r.tell(api.ErrForm)
	}
	return b
}
