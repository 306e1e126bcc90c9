package packet_test

import (
	"math/rand"
	"slices"
	"testing"

	"bollard/api"
	"bollard/packet"
)

// checkGroups asks how many chunks each group has.
func checkGroups(t *testing.T, what string, l []api.Chunk, want ...int) {
	t.Helper()
	if got := checkBundle(t, what, l, api.OK); !slices.Equal(got, want) {
		t.Errorf("%s: the groups have %v chunks, want %v", what, got, want)
	}
}

// The chapter's example.
func TestExample(t *testing.T) {
	if got := packet.Size(ack()); got != 4 {
		t.Errorf("Size of a ShutdownAck is %d", got)
	}
	checkGroups(t, "400 of them", acks(400), 64, 64, 64, 64, 64, 64, 16)
}

// P8.3: no chunks, and each number of small ones.
func TestBundleHowMany(t *testing.T) {
	checkGroups(t, "nil", nil)
	checkGroups(t, "no chunks", []api.Chunk{})
	checkGroups(t, "one", acks(1), 1)
	checkGroups(t, "two", acks(2), 2)
	checkGroups(t, "63", acks(63), 63)
	checkGroups(t, "64", acks(64), 64)
	checkGroups(t, "65", acks(65), 64, 1)
	checkGroups(t, "128", acks(128), 64, 64)
	checkGroups(t, "129", acks(129), 64, 64, 1)
}

// P8.3: sizes that are together just what has room, and four more.
func TestBundleHowLong(t *testing.T) {
	for _, x := range []struct {
		name string
		l    []api.Chunk
		want []int
	}{
		{"just the room, of one", []api.Chunk{taking(1188)}, []int{1}},
		{"just the room, of one, twice", []api.Chunk{taking(1188), taking(1188)}, []int{1, 1}},
		{"just the room, of two", []api.Chunk{taking(1184), ack()}, []int{2}},
		{"just the room, of two, the first one small", []api.Chunk{ack(), taking(1184)}, []int{2}},
		{"just the room, and one more", []api.Chunk{taking(1184), ack(), ack()}, []int{2, 1}},
		{"four more, by the last one", []api.Chunk{taking(1188), ack()}, []int{1, 1}},
		{"four more, by the first one", []api.Chunk{ack(), taking(1188)}, []int{1, 1}},
		{"a great one between small ones", []api.Chunk{ack(), ack(), taking(1188), ack(), ack()}, []int{2, 1, 2}},
		{"just the room, of three", []api.Chunk{taking(400), taking(388), taking(400)}, []int{3}},
		{"four more, of three", []api.Chunk{taking(400), taking(392), taking(400)}, []int{2, 1}},
		{"a later small one does not go ahead of a great one", []api.Chunk{taking(600), taking(600), taking(8), taking(588)}, []int{1, 2, 1}},
		{"just the room, of 64", append(acks(63), taking(1188-252)), []int{64}},
		{"four more, of 64", append(acks(63), taking(1192-252)), []int{63, 1}},
		{"64 of just the room, and one more", append(append(acks(63), taking(1188-252)), ack()), []int{64, 1}},
		{"what fills up counts", []api.Chunk{{Kind: 99, Data: value(589)}, {Kind: 99, Data: value(589)}}, []int{1, 1}},
		{"what fills up counts", []api.Chunk{{Kind: 99, Data: value(589)}, {Kind: 99, Data: value(588)}}, []int{2}},
	} {
		checkGroups(t, x.name, x.l, x.want...)
	}
	for n := 4; n <= 1188; n += 4 {
		most := min(64, 1188/n)
		checkGroups(t, "as many as have room", slices.Repeat([]api.Chunk{taking(n)}, most+1), most, 1)
	}
}

// P8.3: a size of 1188 has room, one of 1192 has not, wherever it stands.
func TestBundleTooGreat(t *testing.T) {
	for _, c := range []api.Chunk{taking(1192), {Kind: api.CookieEcho, Data: value(1185)}, {Kind: 99, Data: value(1200)}, greatest(api.Data), greatest(api.Init), greatest(api.Abort)} {
		checkBundle(t, "too great", []api.Chunk{c}, api.ErrLarge)
		for _, at := range []int{0, 1, 64, 65, 200} {
			checkBundle(t, "too great among others", inPlace(acks(200), at, c), api.ErrLarge)
		}
	}
	checkGroups(t, "just not too great", []api.Chunk{{Kind: api.CookieEcho, Data: value(1184)}, {Kind: api.CookieEcho, Data: value(1181)}, greatest(api.Sack)}, 1, 1, 1)
}

// P8.3: a chunk that is not shaped, wherever it stands, and ahead of one that is too great and behind it.
func TestBundleNotShaped(t *testing.T) {
	for _, c := range notShaped() {
		checkBundle(t, "not shaped", []api.Chunk{c}, api.ErrArg)
		checkBundle(t, "not shaped, ahead of one that is too great", []api.Chunk{c, taking(1192)}, api.ErrArg)
		checkBundle(t, "not shaped, behind one that is too great", []api.Chunk{taking(1192), c}, api.ErrArg)
		for _, at := range []int{0, 1, 64, 65, 200} {
			checkBundle(t, "not shaped among others", inPlace(acks(200), at, c), api.ErrArg)
			checkBundle(t, "not shaped among others, one of them too great", inPlace(append(acks(200), greatest(api.Error)), at, c), api.ErrArg)
		}
	}
}

// P8.3: kinds that stand alone first, in the middle, last, and one behind the other.
func TestBundleAlone(t *testing.T) {
	for _, kind := range aloneKinds {
		c := ordinary(kind)
		checkGroups(t, "by itself", []api.Chunk{c}, 1)
		checkGroups(t, "first", []api.Chunk{c, ack(), ack()}, 1, 2)
		checkGroups(t, "in the middle", []api.Chunk{ack(), ack(), c, ack()}, 2, 1, 1)
		checkGroups(t, "last", []api.Chunk{ack(), ack(), c}, 2, 1)
		checkGroups(t, "behind 64", append(acks(64), c), 64, 1)
		checkGroups(t, "behind 63, and one behind it", append(acks(63), c, ack()), 63, 1, 1)
		checkGroups(t, "behind a great one", []api.Chunk{taking(1188), c, taking(1188)}, 1, 1, 1)
		for _, other := range aloneKinds {
			checkGroups(t, "one behind the other", []api.Chunk{c, ordinary(other), c}, 1, 1, 1)
			checkGroups(t, "with one between", []api.Chunk{c, ack(), ordinary(other)}, 1, 1, 1)
		}
	}
	for _, kind := range kinds {
		if !slices.Contains(aloneKinds, kind) {
			checkGroups(t, "one that does not stand alone", []api.Chunk{ordinary(kind), ack(), ordinary(kind)}, 3)
		}
	}
}

// P8.3, P8.4: rows drawn from a fixed seed are as the chapter's words have them.
func TestBundleRows(t *testing.T) {
	draw := rand.New(rand.NewSource(83))
	told := map[api.Errno]int{}
	groups := 0
	for range 3000 {
		l := drawnChunks(draw, 30)
		if draw.Intn(3) == 0 {
			l = append(l, acks(draw.Intn(150))...)
		}
		_, err := wordOfBundle(l)
		groups += len(checkBundle(t, "a row", l, err))
		told[err]++
	}
	for _, err := range []api.Errno{api.OK, api.ErrArg, api.ErrLarge} {
		if told[err] < 300 {
			t.Errorf("the rows tell %v only %d times", err, told[err])
		}
	}
	if groups < 3000 {
		t.Errorf("the rows have only %d groups", groups)
	}
}
