package xfer_test

import (
	"bytes"
	"slices"
	"testing"

	"bollard/api"
	"bollard/xfer"
)

// R3: neither a message's octets nor those that stand behind them in the same memory are changed or kept.
func TestMessagesAreNotKept(t *testing.T) {
	all := bytes.Repeat([]byte{1, 2, 3, 4, 5, 6, 7}, 60)
	before := slices.Clone(all)
	x := xfer.New(config())
	for _, m := range []api.Message{{Stream: 1, Ppid: 51, Data: all[0:210]}, {Ppid: 51, Data: all[200:230]}} {
		if got := x.Send(m, always, always, 0); got != api.OK {
			t.Errorf("Send is %v", got)
		}
	}
	if !bytes.Equal(all, before) {
		t.Errorf("the octets that were handed in became %v", all)
	}
	turn(all)
	turned := slices.Clone(all)
	want := []api.Chunk{piece(100, 1, 0, begin, before[:100]...), piece(101, 1, 0, 0, before[100:200]...), piece(102, 1, 0, end, before[200:210]...), piece(103, 0, 0, alone, before[200:230]...)}
	for n, at := range []int{0, 3000, 9000, 21000} {
		l := x.Tell(at)
		if !sameChunks(l, want[:len(l)]) || len(l) == 0 {
			t.Errorf("the %dth answer is %v", n, l)
		}
		turnAll(l)
		x.Tick(at + 60000)
	}
	if !bytes.Equal(all, turned) {
		t.Errorf("what was told turns what was handed in to %v", all)
	}
}

// R3: neither chunks, their lists, nor what stands behind those in the same memory are changed or kept.
func TestChunksAreNotKept(t *testing.T) {
	octets := bytes.Repeat([]byte{1, 2, 3, 4}, 9)
	blocks := []api.Block{block(2, 2), block(3, 3), block(1, 1)}
	skips := []api.Skip{hop(1, 4), hop(0, 2), hop(0, 7)}
	x := xfer.New(config())
	for range 3 {
		x.Send(text(0, 100), always, always, 0)
	}
	x.Tell(0)
	data, answer, skip := full(0), full(3), full(192)
	data.A, data.Out, data.In, data.Data = 12, 1, 5, octets[:8]
	answer.A, answer.B, answer.Blocks = 99, 65536, blocks[:1]
	skip.A, skip.Skips = 11, skips[:2]
	handed := copiedAll([]api.Chunk{data, answer, skip})
	for _, c := range []api.Chunk{data, answer, skip} {
		if got := x.Hear(c, 0); got != api.OK {
			t.Errorf("Hear(%v) is %v", c, got)
		}
	}
	if !sameChunks([]api.Chunk{data, answer, skip}, handed) || !bytes.Equal(octets, bytes.Repeat([]byte{1, 2, 3, 4}, 9)) || blocks[1] != block(3, 3) || blocks[2] != block(1, 1) || skips[2] != hop(0, 7) {
		t.Errorf("what was handed in became %v, %v, %v, %v", octets, blocks, skips, []api.Chunk{data, answer, skip})
	}
	turnAll([]api.Chunk{data, answer, skip})
	turn(octets)
	l := x.Messages()
	m := textOf(1, 1, 2, 3, 4, 1, 2, 3, 4)
	m.Ppid = 9
	if !sameMessages(l, []api.Message{m}) {
		t.Errorf("Messages is %v", l)
	}
	turned := slices.Clone(octets)
	turn(l[0].Data)
	if !bytes.Equal(octets, turned) {
		t.Errorf("what was told turns what was handed in to %v", octets)
	}
	x.Tick(3000)
	if l := x.Tell(3000); !sameChunks(l, []api.Chunk{sack(12, 65536), flight(100, 0, text(0, 100))}) {
		t.Errorf("Tell is %v", l)
	}
}

// lists are all that chunks have, each turned by itself shows whether another one turns with it.
func lists(l []api.Chunk) int {
	n := 0
	for _, c := range l {
		n += len(c.Blocks) + len(c.Dups) + len(c.Skips) + len(c.Data)
	}
	return n
}

// R3: what Tell told is new memory: turning a chunk changes no other one, and nothing that is told later.
func TestTellIsNewMemory(t *testing.T) {
	x := xfer.New(config())
	x.Send(text(1, 1), 5, always, 0)
	x.Send(text(0, 1), 5, always, 0)
	x.Send(text(0, 250), always, always, 0)
	for _, c := range []api.Chunk{flight(9, 0, freely(1, 3)), flight(9, 0, freely(1, 3)), flight(12, 0, freely(1, 3)), flight(12, 0, freely(1, 3))} {
		x.Hear(c, 0)
	}
	m := text(0, 250)
	want := []api.Chunk{
		twice(sack(6, 65530, block(3, 3), block(6, 6)), 9, 12), forward(101, hop(1, 0), hop(0, 0)),
		piece(102, 0, 1, begin, m.Data[:100]...), piece(103, 0, 1, 0, m.Data[100:200]...), piece(104, 0, 1, end, m.Data[200:]...),
	}
	first := x.Tell(6)
	if !sameChunks(first, want) || lists(first) != 2+2+2+250 {
		t.Fatalf("Tell is %v, want %v", first, want)
	}
	for i := range first {
		rest := copiedAll(first[i+1:])
		behind := first[i]
		behind.Blocks, behind.Dups, behind.Skips, behind.Data = append(behind.Blocks, block(77, 78)), append(behind.Dups, 77), append(behind.Skips, hop(77, 78)), append(behind.Data, 77)
		turnAll([]api.Chunk{behind})
		turnAll(first[i : i+1])
		if !sameChunks(first[i+1:], rest) {
			t.Errorf("others have turned with the %dth chunk: %v", i, first[i+1:])
		}
	}
	turnAll(append(first, flight(1, 1, text(1, 1))))
	x.Tick(3006)
	x.Hear(flight(9, 0, freely(1, 3)), 3006)
	want[0].Dups = []uint32{9}
	second := x.Tell(3006)
	if !sameChunks(second, want[:3]) {
		t.Errorf("told again it is %v, want %v", second, want[:3])
	}
	x.Tick(9006)
	x.Hear(flight(12, 0, freely(1, 3)), 9006)
	x.Hear(flight(12, 0, freely(1, 3)), 9006)
	want[0].Dups = []uint32{12, 12}
	if third := x.Tell(9006); !sameChunks(third, want[:3]) || second[0].Dups[0] != 9 {
		t.Errorf("told at last it is %v, want %v", third, want[:3])
	}
}

// R3: what Messages told is new memory.
func TestMessagesIsNewMemory(t *testing.T) {
	x := xfer.New(config())
	for _, c := range []api.Chunk{flight(7, 0, text(1, 3)), flight(8, 0, text(0, 4)), flight(10, 2, text(1, 5)), piece(11, 0, 1, begin, 1, 2)} {
		x.Hear(c, 0)
	}
	first := x.Messages()
	turn(first[0].Data)
	if !sameMessages(first[1:], []api.Message{text(0, 4)}) {
		t.Errorf("the second message has turned with the first one: %v", first[1])
	}
	behind := append(first, text(0, 9), text(0, 9), text(0, 9))
	for i := range behind {
		behind[i].Data = append(behind[i].Data, 55, 56, 57)
		turn(behind[i].Data)
	}
	for _, c := range []api.Chunk{flight(9, 1, text(1, 6)), piece(12, 0, 1, end, 3)} {
		x.Hear(c, 0)
	}
	second := x.Messages()
	for i := range behind {
		behind[i] = api.Message{Stream: 77}
	}
	if !sameMessages(second, []api.Message{text(1, 6), text(1, 5), textOf(0, 1, 2, 3)}) {
		t.Errorf("the second answer is %v", second)
	}
}
