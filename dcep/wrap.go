package dcep

import "slices"

// The PPIDs. As no message may be empty, one that has nothing to tell has a PPID of its own, and an octet that is not looked at.
const (
	ofOpening = 50
	ofText    = 51
	ofOctets  = 53
	noText    = 56
	noOctets  = 57
)

// Wrap is what is sent of a text, or of octets.
func Wrap(text bool, b []byte) (uint32, []byte) {
	switch {
	case len(b) == 0 && text:
		return noText, []byte{0}
	case len(b) == 0:
		return noOctets, []byte{0}
	case text:
		return ofText, slices.Clone(b)
	}
	return ofOctets, slices.Clone(b)
}

// Unwrap is the text, or the octets, of what was sent.
func Unwrap(ppid uint32, b []byte) (bool, []byte, bool) {
	switch ppid {
	case noText, noOctets:
		return ppid == noText, nil, true
	case ofText, ofOctets:
		if len(b) > 0 {
			return ppid == ofText, slices.Clone(b), true
		}
	}
	return false, nil, false
}
