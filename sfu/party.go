package sfu

import (
	"bollard/api"
	"bollard/assoc"
	"bollard/audio"
	"bollard/dcep"
)

// mostSounds is how many packets of sound wait at most to be asked for.
const mostSounds = 64

// Party is one: its side, and what it says and hears.
type Party struct {
	side
	spoken [][]byte // sound that is to be told
	heard  []Said
	sounds []audio.Packet
}

// NewParty is one that has not started.
func NewParty(c Config) *Party { return &Party{side: newSide(c, partyPort, serverPort, true)} }

// Start begins.
func (p *Party) Start(now int, draw uint32) api.Errno {
	if p == nil {
		return api.ErrArg
	}
	return p.link.Start(now, draw)
}

// Open opens a channel.
func (p *Party) Open(o dcep.Opening, now int) (uint16, api.Errno) {
	if p == nil {
		return 0, api.ErrArg
	}
	if _, there := p.channels.Find(o.Label); there || !p.open() {
		return 0, api.ErrState
	}
	stream, b, err := p.channels.Ask(o)
	if err != api.OK {
		return 0, err
	}
	if err := p.send(opening(stream, b), now); err != api.OK {
		p.channels.Close(stream)
		return 0, err
	}
	return stream, api.OK
}

// Say says something on a channel.
func (p *Party) Say(label string, text bool, data []byte, now int) api.Errno {
	switch {
	case p == nil:
		return api.ErrArg
	case !p.open():
		return api.ErrState
	}
	stream, there := p.channels.Find(label)
	if !there {
		return api.ErrName
	}
	return p.say(stream, text, data, now)
}

// Shut closes a channel.
func (p *Party) Shut(label string, now int) api.Errno {
	if p == nil {
		return api.ErrArg
	}
	stream, there := p.channels.Find(label)
	if !there {
		return api.ErrName
	}
	p.channels.Close(stream)
	p.giveUp(stream)
	p.restart(now)
	return api.OK
}

// Close ends.
func (p *Party) Close(now int) api.Errno {
	if p == nil {
		return api.ErrArg
	}
	return p.link.Close(now)
}

// Sound sends sound.
func (p *Party) Sound(a audio.Packet) api.Errno {
	switch {
	case p == nil:
		return api.ErrArg
	case !p.open():
		return api.ErrState
	}
	b, err := audio.Encode(a)
	if err != api.OK {
		return err
	}
	p.spoken = append(p.spoken, b)
	return api.OK
}

// Hear takes in octets.
func (p *Party) Hear(b []byte, now int, draw uint32) api.Errno {
	switch {
	case p == nil:
		return api.ErrArg
	case audio.Is(b):
		return p.sound(b)
	}
	err := p.hear(b, now, draw)
	p.take(now)
	return err
}

// Tick takes in that time goes by.
func (p *Party) Tick(now int) {
	if p == nil {
		return
	}
	p.link.Tick(now)
}

// Tell is what is sent now.
func (p *Party) Tell(now int) [][]byte {
	if p == nil {
		return nil
	}
	p.answer(now)
	l := append(p.tell(now), p.spoken...)
	p.spoken = nil
	return l
}

// Heard is what was said.
func (p *Party) Heard() []Said {
	if p == nil {
		return nil
	}
	l := p.heard
	p.heard = nil
	return l
}

// Sounds are what sounded.
func (p *Party) Sounds() []audio.Packet {
	if p == nil {
		return nil
	}
	l := p.sounds
	p.sounds = nil
	return l
}

// State is the association's.
func (p *Party) State() int {
	if p == nil {
		return assoc.Done
	}
	return p.link.State()
}

// Ready: is a channel of a label open?
func (p *Party) Ready(label string) bool {
	if p == nil {
		return false
	}
	for stream := range uint16(api.MaxStreams) {
		if p.channels.State(stream) == dcep.Open && p.channels.Opening(stream).Label == label {
			return true
		}
	}
	return false
}

// sound keeps sound, as long as there is room.
func (p *Party) sound(b []byte) api.Errno {
	x, err := audio.Decode(b)
	if err == api.OK && len(p.sounds) < mostSounds {
		p.sounds = append(p.sounds, x)
	}
	return err
}

// take takes in what was said on the channels.
func (p *Party) take(now int) {
	for _, e := range p.follow(now).events {
		if e.What == dcep.Came {
			p.heard = append(p.heard, Said{p.channels.Opening(e.Stream).Label, e.Text, e.Data})
		}
	}
}
