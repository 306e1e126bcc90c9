package assoc

import (
	"bollard/api"
	"bollard/rto"
	"bollard/timer"
)

// The timers, in the order in which they are told.
const (
	ofBeginning = 1 + iota
	ofEnd
	ofRestart
)

// mostAgain is how many times the same is told again.
const mostAgain = 8

// voice is timers, and what they say.
type voice struct {
	timers timer.Set
	words  map[int]word // of each timer that runs
}

// word is what a timer says.
type word struct {
	chunk  api.Chunk
	wait   rto.State
	again  int  // how many times it was due
	untold bool // is it to be told?
}

// say lets a timer say a chunk, from now on.
func (v *voice) say(id int, c api.Chunk, now int) {
	if v.words == nil {
		v.words = map[int]word{}
	}
	v.start(id, word{chunk: c, wait: rto.Start(), untold: true}, now)
}

// start lets a timer run for as long as its word waits.
func (v *voice) start(id int, w word, now int) {
	v.words[id] = w
	v.timers.Start(id, now+w.wait.Wait)
}

// hush stops a timer, and what it says.
func (v *voice) hush(id int) {
	v.timers.Stop(id)
	delete(v.words, id)
}

// stand stops all timers.
func (v *voice) stand() { *v = voice{} }

// again lets the timers that are due say again what they say; false: one of them has said it often enough.
func (v *voice) again(now int) bool {
	for _, id := range v.timers.Due(now) {
		w := v.words[id]
		if w.again == mostAgain {
			return false
		}
		w.again++
		w.wait = rto.Back(w.wait)
		w.untold = true
		v.start(id, w, now)
	}
	return true
}

// told are the chunks that are to be told, in the order of the timers. A map is gone through in any order, so the timers are asked one by one.
func (v *voice) told() []api.Chunk {
	var l []api.Chunk
	for id := ofBeginning; id <= ofRestart; id++ {
		if w := v.words[id]; w.untold {
			l = append(l, w.chunk)
			w.untold = false
			v.words[id] = w
		}
	}
	return l
}
