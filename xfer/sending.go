package xfer

import (
	"bollard/api"
	"bollard/rto"
	"bollard/sendq"
	"bollard/split"
	"bollard/window"
)

const (
	// longest is the longest piece that split makes.
	longest = 1172
	// heads is what a packet has ahead of a piece that is alone in it.
	heads = 28
)

// sending is what goes out.
type sending struct {
	queue    *sendq.Queue
	window   window.State
	wait     rto.State
	timer    timer
	peer     int      // the peer's room
	numbers  []uint16 // of each stream the next message's
	skipped  skipped
	failures int
}

// timer is when something is due, if it runs.
type timer struct {
	at   int
	runs bool
}

// skipped is up to where the peer was told last to skip, if it was.
type skipped struct {
	upTo uint32
	told bool
}

func newSending(c Config) sending {
	streams := c.Out
	if streams < 1 || streams > api.MaxStreams {
		streams = api.MaxStreams
	}
	return sending{
		queue:   sendq.New(c.First),
		window:  window.Start(c.Mtu),
		wait:    rto.Start(),
		peer:    int(c.Room),
		numbers: make([]uint16, streams),
	}
}

// due tells whether the timer runs to a time, or to an earlier one.
func (t timer) due(now int) bool { return t.runs && t.at <= now }

// sends tells whether there is a stream to send on.
func (s *sending) sends(stream uint16) bool { return int(stream) < len(s.numbers) }

// push lays a message behind.
func (s *sending) push(m api.Message, until, tries int) api.Errno {
	if !s.sends(m.Stream) {
		return api.ErrName
	}
	// The queue numbers the chunks itself: which number they have here is all one.
	l, err := split.Split(m, 0, s.numbers[m.Stream], s.piece())
	if err != api.OK {
		return err
	}
	if s.queue.Left()+len(m.Data) > most {
		return api.ErrFull
	}
	if err := s.queue.Push(l, until, tries); err != api.OK {
		return err
	}
	if !m.Unordered {
		s.numbers[m.Stream]++
	}
	return api.OK
}

// piece is how many octets of a message go into one chunk.
func (s *sending) piece() int { return max(1, min(longest, s.window.Mtu-heads)) }

// answered takes in a Sack.
func (s *sending) answered(c api.Chunk, now int) api.Errno {
	full := s.queue.Flying() >= s.window.Cwnd
	r, ok := s.queue.Ack(c.A, c.Blocks, now)
	if !ok {
		return api.ErrForm
	}
	s.peer = int(c.B)
	if r.Sample >= 0 {
		s.wait = rto.Sample(s.wait, r.Sample)
	}
	s.window = window.Acked(s.window, r.Bytes, full, c.A)
	if r.Loss {
		s.window = window.Lost(s.window, s.queue.Next()-1)
	}
	s.moved(r.Moved, now)
	return api.OK
}

// moved takes in whether an answer brought the floor up.
func (s *sending) moved(moved bool, now int) {
	if moved {
		s.failures = 0
	}
	switch {
	case s.queue.Len() == 0:
		s.timer = timer{}
	case moved:
		s.start(now)
	}
}

// start lets the timer run for as long as an answer is waited for.
func (s *sending) start(now int) { s.timer = timer{now + s.wait.Wait, true} }

// timeout takes in that nothing came in time.
func (s *sending) timeout() {
	s.timer = timer{}
	s.queue.Timeout()
	s.window = window.Timeout(s.window)
	s.wait = rto.Back(s.wait)
	s.failures++
	s.skipped = skipped{}
}

// flights are the chunks that the peer is to answer.
func (s *sending) flights(now int) []api.Chunk {
	l := append(s.forward(), s.queue.Take(now, s.room())...)
	if !s.timer.runs && (len(l) > 0 || s.queue.Flying() > 0) {
		s.start(now)
	}
	return l
}

// forward is the Forward that is to be told, if one is.
func (s *sending) forward() []api.Chunk {
	n, skips, there := s.queue.Forward()
	last := skipped{n, true}
	if !there || s.skipped == last {
		return nil
	}
	s.skipped = last
	return []api.Chunk{{Kind: api.Forward, A: n, Skips: skips[:min(len(skips), api.MaxStreams)]}}
}

// room is how many octets more may fly.
func (s *sending) room() int {
	flying := s.queue.Flying()
	return window.Room(s.window, flying, max(s.peer-flying, 0))
}
