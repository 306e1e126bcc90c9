package topic

import (
	"slices"
	"strings"

	"bollard/api"
)

// most is how many subscriptions a party has at most.
const most = 64

// member is a party that has joined.
type member struct {
	subscriptions map[string]*subscription // by their topics
	waiting       []Item                   // the one that waits longest first
	lost          int
}

// subscription is a party's to a topic.
type subscription struct {
	mode   int
	failed bool
}

// subscribe adds a subscription, or begins one anew that has failed.
func (m *member) subscribe(topic string, mode int) api.Errno {
	s := m.subscriptions[topic]
	switch {
	case s != nil && !s.failed:
		return api.ErrState
	case s == nil && len(m.subscriptions) >= most:
		return api.ErrFull
	}
	// The text may be a piece of a far longer one, which is not to be kept.
	m.subscriptions[strings.Clone(topic)] = &subscription{mode: mode}
	return api.OK
}

// drop ends a subscription, with what waits of its topic.
func (m *member) drop(topic string) api.Errno {
	if m.subscriptions[topic] == nil {
		return api.ErrName
	}
	delete(m.subscriptions, topic)
	m.waiting = slices.DeleteFunc(m.waiting, func(item Item) bool { return item.Topic == topic })
	return api.OK
}

// take takes an item, if the subscription to its topic lets it; did it?
func (m *member) take(item Item, room int) bool {
	s := m.subscriptions[item.Topic]
	if s == nil || s.failed {
		return false
	}
	if len(m.waiting) >= room && !m.makeRoom(s, item.Topic) {
		return false
	}
	m.waiting = append(m.waiting, item)
	return true
}

// makeRoom does what the mode of a subscription says where there is no room; is there room then?
func (m *member) makeRoom(s *subscription, topic string) bool {
	if s.mode == Ordered {
		s.failed = true
		return false
	}
	m.lost++
	if s.mode == Newest {
		return false
	}
	oldest := slices.IndexFunc(m.waiting, func(item Item) bool { return item.Topic == topic })
	if oldest < 0 {
		return false
	}
	m.waiting = slices.Delete(m.waiting, oldest, oldest+1)
	return true
}
