package sfu

import (
	"slices"

	"bollard/api"
	"bollard/assoc"
	"bollard/audio"
	"bollard/dcep"
	"bollard/topic"
)

// Server is one: its places, and what waits for their parties.
type Server struct {
	config  Config
	places  []place
	relay   *topic.Relay
	forward *audio.Forwarder
}

// place is where the server has a party.
type place struct {
	side
	item topic.Item // the one that was pulled and has no room yet; none has an empty Topic
}

// NewServer is one that nobody has joined.
func NewServer(c Config) *Server {
	c.Key = slices.Clone(c.Key)
	s := &Server{
		config:  c,
		places:  make([]place, c.places()),
		relay:   topic.New(c.Parties, c.Room),
		forward: audio.New(c.Parties, c.Room),
	}
	for party := range s.places {
		s.places[party].side = s.vacant()
	}
	return s
}

// Hear takes in octets of a party.
func (s *Server) Hear(party int, b []byte, now int, draw uint32) api.Errno {
	switch {
	case !s.has(party):
		return api.ErrArg
	case audio.Is(b):
		return s.sound(party, b)
	}
	err := s.places[party].hear(b, now, draw)
	s.follow(party, now)
	return err
}

// Tick takes in that time goes by.
func (s *Server) Tick(now int) {
	if s == nil {
		return
	}
	for party := range s.places {
		s.places[party].link.Tick(now)
		s.follow(party, now)
	}
}

// Tell is what is sent to a party now.
func (s *Server) Tell(party, now int) [][]byte {
	if !s.has(party) {
		return nil
	}
	p := &s.places[party]
	if p.open() {
		p.answer(now)
		s.hand(party, now)
	}
	l := p.tell(now)
	for x, ok := s.forward.Pull(party); ok; x, ok = s.forward.Pull(party) {
		b, _ := audio.Encode(x) // what was handed on can be told
		l = append(l, b)
	}
	return l
}

// State is a party's association's.
func (s *Server) State(party int) int {
	if !s.has(party) {
		return assoc.Done
	}
	return s.places[party].link.State()
}

// Failed: did a party's subscription?
func (s *Server) Failed(party int, topic string) bool {
	return s.has(party) && s.relay.Failed(party, topic)
}

// Lost is how many items a party lost.
func (s *Server) Lost(party int) int {
	if !s.has(party) {
		return 0
	}
	return s.relay.Lost(party)
}

// Held is how much waits.
func (s *Server) Held() int {
	if s == nil {
		return 0
	}
	n := 0
	for party := range s.places {
		n += s.relay.Waiting(party) + s.forward.Waiting(party)
		if s.places[party].item.Topic != "" {
			n++
		}
	}
	return n
}

// has tells that there is such a place.
func (s *Server) has(party int) bool { return s != nil && party >= 0 && party < len(s.places) }

// vacant is what a place has that nobody has come to.
func (s *Server) vacant() side { return newSide(s.config, serverPort, partyPort, false) }

// sound hands sound on.
func (s *Server) sound(party int, b []byte) api.Errno {
	x, err := audio.Decode(b)
	switch {
	case err != api.OK:
		return err
	case !s.places[party].open():
		return api.ErrState
	}
	_, err = s.forward.Hear(party, x)
	return err
}

// follow does what follows of what a party's association heard.
func (s *Server) follow(party, now int) {
	p := &s.places[party]
	n := p.follow(now)
	// A place does not begin by itself: with a new End it is open.
	if n.anew {
		s.leave(party)
		s.relay.Join(party)
		s.forward.Listen(party)
	}
	for _, label := range n.ended {
		s.relay.Drop(party, label)
		if p.item.Topic == label {
			p.item = topic.Item{}
		}
	}
	for _, e := range n.events {
		s.take(party, e)
	}
	if p.link.State() == assoc.Done {
		s.leave(party)
		// What was answered as it ended is to be told still.
		answers := p.answers
		p.side = s.vacant()
		p.answers = answers
	}
}

// take takes in what is told of a message of a party.
func (s *Server) take(party int, e dcep.Event) {
	switch e.What {
	case dcep.Opened:
		// A label that the relay refuses has a channel without a subscription.
		s.relay.Subscribe(party, e.Opening.Label, mode(e.Opening.Kind))
	case dcep.Came:
		s.relay.Publish(party, s.places[party].channels.Opening(e.Stream).Label, e.Text, e.Data)
	}
}

// leave lets a party out, with all that waits for it.
func (s *Server) leave(party int) {
	s.relay.Leave(party)
	s.forward.Quiet(party)
	s.places[party].item = topic.Item{}
}

// hand sends a party what waits for it, as long as there is room.
func (s *Server) hand(party, now int) {
	p := &s.places[party]
	for {
		if p.item.Topic == "" {
			p.item, _ = s.relay.Pull(party)
		}
		if p.item.Topic == "" || p.pass(now) == api.ErrFull {
			return
		}
		p.item = topic.Item{}
	}
}

// pass sends the item that was pulled on the channel of its label, which is there: what waits goes away with the last one.
func (p *place) pass(now int) api.Errno {
	stream, _ := p.channels.Find(p.item.Topic)
	return p.say(stream, p.item.Text, p.item.Data, now)
}

// mode is that of a subscription by a channel's kind: where nothing is given up, nothing may be left out.
func mode(kind uint8) int {
	if kind == 0 {
		return topic.Ordered
	}
	return topic.Oldest
}
