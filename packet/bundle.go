package packet

import (
	"iter"
	"slices"

	"bollard/api"
)

// Bundle are chunks in groups that fit a packet each.
func Bundle(l []api.Chunk) ([][]api.Chunk, api.Errno) {
	if !allShaped(l) {
		return nil, api.ErrArg
	}
	if slices.ContainsFunc(l, tooGreat) {
		return nil, api.ErrLarge
	}
	var out [][]api.Chunk
	for group := range groups(l) {
		out = append(out, copies(group))
	}
	return out, api.OK
}

// tooGreat tells that a chunk has no room in a packet, even by itself.
func tooGreat(c api.Chunk) bool { return Size(c) > room }

// groups hands on as many chunks as fit a packet, then as many of those behind them, to the end. None of them may be too great: each has room by itself, so that no group is empty and the end is reached.
func groups(l []api.Chunk) iter.Seq[[]api.Chunk] {
	return func(yield func([]api.Chunk) bool) {
		for left := l; len(left) > 0; {
			n := fitting(left)
			if !yield(left[:n]) {
				return
			}
			left = left[n:]
		}
	}
}

// fitting is how many chunks, from the first one on, fit one packet.
func fitting(l []api.Chunk) int {
	sum := 0
	for n, c := range l {
		sum += Size(c)
		if n == api.MaxChunks || sum > room || crowded(l[:n+1]) {
			return n
		}
	}
	return len(l)
}

// copies are chunks in memory of their own.
func copies(l []api.Chunk) []api.Chunk {
	var out []api.Chunk
	for _, c := range l {
		out = append(out, copied(c))
	}
	return out
}

func copied(c api.Chunk) api.Chunk {
	c.Blocks, c.Dups, c.Skips = slices.Clone(c.Blocks), slices.Clone(c.Dups), slices.Clone(c.Skips)
	c.Params, c.Data = slices.Clone(c.Params), slices.Clone(c.Data)
	for i := range c.Params {
		c.Params[i].V = slices.Clone(c.Params[i].V)
	}
	return c
}
