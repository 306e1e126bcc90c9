package dcep

import (
	"strings"
	"unicode/utf8"

	"bollard/api"
	"bollard/octet"
)

// The kinds of channels: 0 to limited, and each of them without order.
const (
	limited   = 2
	unordered = 128
)

const (
	// opens is the first octet of an opening.
	opens = 3
	// headSize is how many octets stand ahead of the texts.
	headSize = 12
)

// Opening is what a channel is opened with.
type Opening struct {
	Kind            uint8
	Priority        uint16
	Limit           uint32
	Label, Protocol string
}

// Encode is an opening as octets.
func Encode(o Opening) ([]byte, api.Errno) {
	switch {
	case o.wrong():
		return nil, api.ErrArg
	case tooLong(len(o.Label)) || tooLong(len(o.Protocol)):
		return nil, api.ErrLarge
	}
	b := octet.Put8(octet.Put8(nil, opens), o.Kind)
	b = octet.Put32(octet.Put16(b, o.Priority), o.Limit)
	b = octet.Put16(octet.Put16(b, uint16(len(o.Label))), uint16(len(o.Protocol)))
	return append(append(b, o.Label...), o.Protocol...), api.OK
}

// Decode is octets as an opening.
func Decode(b []byte) (Opening, api.Errno) {
	switch {
	case len(b) > 0 && b[0] != opens:
		return Opening{}, api.ErrForm
	case len(b) < headSize:
		return Opening{}, api.ErrShort
	}
	o, label, protocol := readHead(b[:headSize])
	texts := b[headSize:]
	switch {
	case tooLong(label) || tooLong(protocol):
		return Opening{}, api.ErrLarge
	case len(texts) < label+protocol:
		return Opening{}, api.ErrShort
	case len(texts) > label+protocol:
		return Opening{}, api.ErrForm
	}
	o.Label, o.Protocol = string(texts[:label]), string(texts[label:])
	if o.wrong() {
		return Opening{}, api.ErrArg
	}
	return o, api.OK
}

// readHead reads what stands ahead of the texts, all of which is there, and tells the lengths of both.
func readHead(b []byte) (Opening, int, int) {
	r := octet.New(b[1:])
	var o Opening
	o.Kind, _ = r.Get8()
	o.Priority, _ = r.Get16()
	o.Limit, _ = r.Get32()
	label, _ := r.Get16()
	protocol, _ := r.Get16()
	return o, int(label), int(protocol)
}

// wrong tells that an opening has a kind that is none, or texts that are none.
func (o Opening) wrong() bool {
	return o.Kind&^unordered > limited || !utf8.ValidString(o.Label) || !utf8.ValidString(o.Protocol)
}

// kept is the same opening with texts of its own: one that is a piece of a far longer text would hold all of that.
func (o Opening) kept() Opening {
	o.Label, o.Protocol = strings.Clone(o.Label), strings.Clone(o.Protocol)
	return o
}

// tooLong tells that a text has more octets than may be.
func tooLong(n int) bool { return n > api.MaxLabel }
