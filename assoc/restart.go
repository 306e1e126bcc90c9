package assoc

import (
	"slices"

	"bollard/api"
	"bollard/octet"
	"bollard/serial"
)

// The kinds of a Reset's parameters.
const (
	askKind    = 13
	answerKind = 16
)

// The results of a request.
const (
	resultDone   = 1
	resultNotYet = 6
)

const (
	// askHead is how many octets stand ahead of a request's streams.
	askHead = 8
	// answerSize is how many octets an answer has.
	answerSize = 8
)

// request is what a side asks for: that streams begin anew, once all up to a number has come.
type request struct {
	number  uint32
	last    uint32
	streams []uint16
}

// restarts is what is known of requests.
type restarts struct {
	number    uint32   // of this side's last one
	underWay  []uint16 // the streams of that one, until it is done
	done      uint32   // the number of the other side's last one that was done
	anyDone   bool     // was one?
	restarted []uint16 // streams that are not told yet
	performed []uint16 // likewise
}

// Restart restarts streams.
func (a *Assoc) Restart(streams []uint16, now int) api.Errno {
	switch {
	case a == nil:
		return api.ErrArg
	case a.state != Open || len(a.restarts.underWay) > 0:
		return api.ErrState
	case len(streams) == 0 || len(streams) > api.MaxStreams:
		return api.ErrArg
	}
	a.restarts.number++
	a.restarts.underWay = slices.Clone(streams)
	r := request{a.restarts.number, a.end.Next() - 1, streams}
	a.voice.say(ofRestart, resetOf(r.param()), bounded(now))
	return api.OK
}

// Restarted are the streams that the other side restarted.
func (a *Assoc) Restarted() []uint16 {
	if a == nil {
		return nil
	}
	return handOver(&a.restarts.restarted)
}

// Performed are the streams whose restart by this side is done.
func (a *Assoc) Performed() []uint16 {
	if a == nil {
		return nil
	}
	return handOver(&a.restarts.performed)
}

// handOver tells a list, and forgets it.
func handOver(l *[]uint16) []uint16 {
	told := *l
	*l = nil
	return told
}

// reset takes in the other side's requests, and its answers.
func (a *Assoc) reset(h *heard, c api.Chunk) api.Errno {
	switch a.state {
	case Open, Closing, ShutHeard:
	default:
		return api.ErrState
	}
	for _, p := range c.Params {
		if err := a.takeParam(h, p); err != api.OK {
			return err
		}
	}
	return api.OK
}

// takeParam takes in a request, or an answer.
func (a *Assoc) takeParam(h *heard, p api.Param) api.Errno {
	switch p.Kind {
	case askKind:
		r, ok := readRequest(p.V)
		if !ok {
			return api.ErrArg
		}
		a.answer(h, a.tags[1], resetOf(answerOf(r.number, a.perform(r))))
	case answerKind:
		number, result, ok := readAnswer(p.V)
		if !ok {
			return api.ErrArg
		}
		a.answered(number, result)
	}
	return api.OK
}

// perform does what the other side asks for, if it can be done yet, and tells the result. What was done is not done again: the answer to it may be lost, and messages come since.
func (a *Assoc) perform(r request) uint32 {
	if serial.Less(a.end.Cum(), r.last) {
		return resultNotYet
	}
	if a.restarts.anyDone && !serial.Less(a.restarts.done, r.number) {
		return resultDone
	}
	a.beginAnew(r.streams, true)
	a.restarts.done, a.restarts.anyDone = r.number, true
	a.restarts.restarted = append(a.restarts.restarted, r.streams...)
	return resultDone
}

// answered takes in what became of a request of this side.
func (a *Assoc) answered(number, result uint32) {
	streams := a.restarts.underWay
	if len(streams) == 0 || number != a.restarts.number || result != resultDone {
		return
	}
	a.beginAnew(streams, false)
	a.restarts.underWay = nil
	a.restarts.performed = append(a.restarts.performed, streams...)
	a.voice.hush(ofRestart)
}

// beginAnew lets streams begin anew: those that come in, or those that go out.
func (a *Assoc) beginAnew(streams []uint16, in bool) {
	for _, stream := range streams {
		a.end.Restart(stream, in)
	}
}

// resetOf is a Reset that has a parameter.
func resetOf(p api.Param) api.Chunk { return api.Chunk{Kind: api.Reset, Params: []api.Param{p}} }

// param is a request as a parameter.
func (r request) param() api.Param {
	b := octet.Put32(octet.Put32(nil, r.number), r.last)
	for _, stream := range r.streams {
		b = octet.Put16(b, stream)
	}
	return api.Param{Kind: askKind, V: b}
}

// answerOf is an answer as a parameter.
func answerOf(number, result uint32) api.Param {
	return api.Param{Kind: answerKind, V: octet.Put32(octet.Put32(nil, number), result)}
}

// readRequest reads a request; false: that is none.
func readRequest(b []byte) (request, bool) {
	if len(b) <= askHead || len(b)%2 != 0 {
		return request{}, false
	}
	in := octet.New(b)
	var r request
	r.number, _ = in.Get32()
	r.last, _ = in.Get32()
	for in.Left() > 0 {
		stream, _ := in.Get16()
		r.streams = append(r.streams, stream)
	}
	return r, true
}

// readAnswer reads an answer; false: that is none.
func readAnswer(b []byte) (number, result uint32, ok bool) {
	if len(b) != answerSize {
		return 0, 0, false
	}
	in := octet.New(b)
	number, _ = in.Get32()
	result, _ = in.Get32()
	return number, result, true
}
