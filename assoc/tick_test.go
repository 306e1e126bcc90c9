package assoc_test

import (
	"testing"

	"bollard/api"
	"bollard/assoc"
)

// waits are how long a timer waits, each time, up to the ninth one.
func waits() []int { return []int{3000, 6000, 12000, 24000, 48000, 60000, 60000, 60000, 60000} }

// spoken is a side whose timer began to speak at a time, what it says, and what lets it be still.
type spoken struct {
	name  string
	start func(t *testing.T, now int) *side
	says  api.Chunk
	still api.Chunk
}

// allSpoken are all that timers say.
func allSpoken() []spoken {
	from := func(state int, call func(s *side, now int)) func(t *testing.T, now int) *side {
		return func(t *testing.T, now int) *side {
			t.Helper()
			s := usual(t, state)
			call(s, now)
			return s
		}
	}
	return []spoken{
		{"Init", from(closed, func(s *side, now int) { s.start(now, mine) }), api.Chunk{Kind: 1, A: mine, B: 65536, Out: 4, In: 4, Ppid: mine}, welcome()},
		{"CookieEcho", from(waiting, func(s *side, now int) { s.hear(now, welcome()) }), api.Chunk{Kind: 10, Data: []byte("brought")}, api.Chunk{Kind: 11}},
		{"Shutdown", from(open, func(s *side, now int) { s.close(now) }), shutdown(peerFirst - 1), api.Chunk{Kind: 8}},
		{"ShutdownAck", from(open, func(s *side, now int) { s.hear(now, shutdown(0)) }), api.Chunk{Kind: 8}, api.Chunk{Kind: 14}},
		{"ShutdownAck of both", from(shutSent, func(s *side, now int) { s.hear(now, shutdown(0)) }), api.Chunk{Kind: 8}, api.Chunk{Kind: 14}},
		{"Reset", from(open, func(s *side, now int) { s.restart(now, 1) }), ask(mine+1, mine-1, 1), answer(mine+1, 1)},
	}
}

// P17.3: what a timer says is told at once, and again each time it is due, eight times, each time after a wait twice as long, up to 60000; the ninth time it is Done.
func TestDueNineTimes(t *testing.T) {
	for _, x := range allSpoken() {
		for _, now := range []int{0, 1, 777, latest / 2} {
			s := x.start(t, now)
			s.tells(now, x.says)
			state := s.a.State()
			for n, wait := range waits() {
				now += wait
				for _, early := range []int{now - wait, now - wait + 1, now - 1} {
					s.tick(early)
					s.tells(early)
				}
				s.tick(now)
				if n == 8 {
					break
				}
				s.state(state)
				s.tells(now, x.says)
				s.tells(now)
			}
			s.state(done)
			s.tells(now)
		}
	}
}

// P17.3: a timer that is due late runs from then on; it is due once, however late it is.
func TestDueLate(t *testing.T) {
	for _, x := range allSpoken() {
		s := x.start(t, 0)
		s.tells(0, x.says)
		now := 0
		for _, wait := range waits()[:8] {
			now += wait + 100000
			s.tick(now)
			s.tells(now, x.says)
			s.tick(now)
			s.tells(now)
		}
		s.tick(now + 59999)
		s.tells(now + 59999)
		s.tick(now + 60000)
		s.state(done)
	}
}

// P17.3: it is counted how often a timer is due, not how often what it says was told.
func TestDueUntold(t *testing.T) {
	for _, x := range allSpoken() {
		s := x.start(t, 0)
		if x.name == "Shutdown" || x.name == "ShutdownAck" {
			s.tell(0) // it begins to run as it is told
		}
		now, state := 0, s.a.State()
		for _, wait := range waits()[:8] {
			now += wait
			s.tick(now)
		}
		s.state(state)
		s.tells(now, x.says)
		s.tells(now)
		s.tick(now + 60000)
		s.state(done)
	}
}

// P17.3: what is answered is not told again, and does not end it; even ahead of the ninth time.
func TestStill(t *testing.T) {
	for _, x := range allSpoken() {
		for _, often := range []int{0, 1, 8} {
			s := x.start(t, 0)
			s.tell(0)
			now := 0
			for _, wait := range waits()[:often] {
				now += wait
				s.tick(now)
				s.tells(now, x.says)
			}
			s.hearsChunks(mine, now, x.still)
			state := s.a.State()
			if x.name == "Init" { // then the CookieEcho is told
				s.tells(now, api.Chunk{Kind: 10, Data: []byte("brought")})
				s.tick(now + 2999)
				s.tells(now + 2999)
				continue
			}
			for range 20 {
				s.tells(now)
				now += 60000
				s.tick(now)
			}
			s.state(state)
		}
	}
}

// P17.3: each matter has eight times of its own: those of the Init count not against the CookieEcho, nor those of a Shutdown against the ShutdownAck, nor one restart's against the next one's.
func TestDueAnew(t *testing.T) {
	all := allSpoken()
	for _, x := range []struct {
		first int
		turn  api.Chunk
		says  api.Chunk
	}{{0, welcome(), all[1].says}, {2, shutdown(0), all[3].says}, {5, answer(mine+1, 1), ask(mine+2, mine-1, 2)}} {
		s := all[x.first].start(t, 0)
		s.tell(0)
		now := 0
		for _, wait := range waits()[:8] {
			now += wait
			s.tick(now)
			s.tell(now)
		}
		now += 5
		s.hear(now, x.turn)
		if x.first == 5 {
			s.restart(now, 2)
		}
		s.tells(now, x.says)
		for _, wait := range waits()[:8] {
			now += wait
			s.tick(now - 1)
			s.tells(now - 1)
			s.tick(now)
			s.tells(now, x.says)
		}
		s.tick(now + 59999)
		if s.a.State() == done {
			t.Errorf("it is Done too early")
		}
		s.tick(now + 60000)
		s.state(done)
	}
}

// P17.3: the timers of the end and of a restart run beside each other, each by itself.
func TestTwoTimers(t *testing.T) {
	s := usual(t, open)
	asks := ask(mine+1, mine-1, 1)
	s.restart(0, 1)
	s.tells(0, asks)
	s.close(1000)
	s.tells(1000, shutdown(peerFirst-1))
	s.tick(3000)
	s.tells(3000, asks)
	s.tick(4000)
	s.tells(4000, shutdown(peerFirst-1))
	s.tick(10000)
	s.tells(10000, shutdown(peerFirst-1), asks)
	for _, now := range []int{21000, 22000, 45000, 46000, 93000, 94000, 153000, 154000, 213000, 214000} {
		s.tick(now)
	}
	s.tells(214000, shutdown(peerFirst-1), asks)
	s.tick(273000)
	s.tick(274000 - 1)
	s.state(shutSent)
}

// P17.3: the ninth time of a restart's timer is the end, too, where others are not due.
func TestRestartEnds(t *testing.T) {
	s := usual(t, open)
	s.restart(0, 1)
	now := 0
	for _, wait := range waits()[:8] {
		now += wait
		s.tick(now)
	}
	s.close(now)
	s.tells(now, shutdown(peerFirst-1), ask(mine+1, mine-1, 1))
	s.tick(now + 59999)
	s.state(shutSent)
	s.tick(now + 60000)
	s.state(done)
	s.tells(now + 60000)
}

// P17.3: what flies and is not answered in time is told again (xfer.Tick); ten failures are none too many, of eleven it is Done.
func TestFailures(t *testing.T) {
	for _, state := range []int{open, closing, shutHeard} {
		s := usual(t, state)
		if state == open {
			s.send(text(0, 3))
			s.tell(0)
		}
		now := 0
		for n := range 11 {
			wait := 60000
			if n < 5 {
				wait = waits()[n]
			}
			now += wait
			s.tick(now - 1)
			s.tells(now - 1)
			s.tick(now)
			if n < 10 {
				s.state(state)
				s.tells(now, flight(mine, 0, text(0, 3)))
			}
		}
		s.state(done)
		s.tells(now)
	}
}

// P17.3: failures count in a row.
func TestFailuresInARow(t *testing.T) {
	s := usual(t, open)
	s.send(text(0, 90), text(0, 80))
	s.tell(0)
	now := 0
	fail := func(often int) {
		for range often {
			now += 60000
			s.tick(now)
			s.tell(now)
		}
	}
	fail(10)
	s.hear(now, sack(mine, 65536))
	s.tell(now)
	fail(10)
	s.state(open)
	fail(1)
	s.state(done)
}

// P17.3: Tick of nil, in Closed and in Done: nothing.
func TestTickOfNothing(t *testing.T) {
	var a *assoc.Assoc
	for _, now := range []int{least, -1, 0, 3000, greatest} {
		a.Tick(now)
		for _, state := range []int{closed, done} {
			kept(t, state, func(s *side) { s.tick(now) })
		}
	}
}

// P17.3: where nothing is due Tick changes nothing.
func TestTickOfNothingDue(t *testing.T) {
	for _, state := range states() {
		kept(t, state, func(s *side) {
			for _, now := range []int{least, -1, 0, 1, 2999} {
				s.tick(now)
				s.tells(now)
			}
		})
	}
	s := usual(t, open)
	s.tick(greatest)
	s.tells(greatest)
	s.state(open)
}
