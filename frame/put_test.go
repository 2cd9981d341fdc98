package frame_test

import (
	"bytes"
	"slices"
	"testing"

	"pintle/api"
	"pintle/frame"
)

// fronts are lists to put behind: nil, without a byte, with some, each with room or without, also with just the room that a frame needs.
func fronts(need int) [][]byte {
	list := [][]byte{nil, {}}
	for _, n := range []int{0, 1, 2, 7, 300} {
		for _, room := range []int{0, 1, 2, 3, need - 1, need, need + 1, need + 90} {
			list = append(list, roomy(drawn(n, n), room))
		}
	}
	return list
}

// P20.1: the bytes of dst, the higher byte of the length, the lower one, the message.
func TestPut(t *testing.T) {
	for _, message := range ofLengths(lengths()...) {
		for _, dst := range fronts(len(message) + 2) {
			want := slices.Concat(dst, framed(message))
			if got := mustPut(t, dst, message); !bytes.Equal(got, want) {
				t.Fatalf("%d bytes behind %d: %d that are others", len(message), len(dst), len(got))
			}
		}
	}
}

// P20.1: the two bytes of the length, written out.
func TestPutLength(t *testing.T) {
	for _, x := range []struct {
		n           int
		first, then byte
	}{{0, 0, 0}, {1, 0, 1}, {255, 0, 255}, {256, 1, 0}, {257, 1, 1}, {4660, 0x12, 0x34}, {65280, 255, 0}, {65535, 255, 255}} {
		got := mustPut(t, []byte{9}, make([]byte, x.n))
		if len(got) != 3+x.n || got[0] != 9 || got[1] != x.first || got[2] != x.then {
			t.Errorf("%d: %d bytes, % x", x.n, len(got), got[:3])
		}
	}
}

// P20.1: lengths from none up to the limit, the short ones one by one.
func TestPutLengths(t *testing.T) {
	message := drawn(3, api.MaxMessage)
	for n := 0; n <= len(message); n += 1 + n/500 {
		if got := mustPut(t, nil, message[:n]); !bytes.Equal(got, framed(message[:n])) {
			t.Fatalf("%d bytes: %d that are others", n, len(got))
		}
	}
}

// P20.1, W3: a message of more than MaxMessage bytes, also one whose lowest two bytes of its length are small; what is handed in stays as it was.
func TestPutLong(t *testing.T) {
	for _, n := range []int{api.MaxMessage + 1, api.MaxMessage + 2, 65791, 65792, 1<<17 - 1, 1 << 17, 1 << 20, 1<<24 + 5} {
		was := drawn(5, n)
		for _, dst := range [][]byte{nil, {}, roomy([]byte("ahoy"), 0), roomy([]byte("ahoy"), 90), roomy([]byte("ahoy"), n+2)} {
			message, front := roomy(was, 3), slices.Clone(dst)
			got, err := frame.Put(dst, message)
			if err != api.ErrLong || len(got) != 0 {
				t.Fatalf("%d bytes: %d, %v", n, len(got), err)
			}
			mustBeWhole(t, dst, front)
			mustBeWhole(t, message, was)
		}
	}
}

// An answer has just the room that it needs (the chapter's Ways), whatever room dst had.
func TestPutJustRoom(t *testing.T) {
	for _, message := range ofLengths(lengths()...) {
		for _, dst := range fronts(len(message) + 2) {
			if got := mustPut(t, dst, message); cap(got) != len(got) {
				t.Fatalf("%d bytes, with room for %d", len(got), cap(got))
			}
		}
	}
}

// P20.1: what stands behind the end of a message that is within the limit does not count.
func TestPutRoom(t *testing.T) {
	message := make([]byte, 4, 1<<17)
	if got := mustPut(t, nil, message); !bytes.Equal(got, framed(message)) {
		t.Errorf("%d bytes", len(got))
	}
}

// W5: nil and a list without a byte are the same.
func TestPutNothing(t *testing.T) {
	for _, dst := range [][]byte{nil, {}, make([]byte, 0, 9)} {
		for _, message := range [][]byte{nil, {}, make([]byte, 0, 9)} {
			if got := mustPut(t, dst, message); !bytes.Equal(got, []byte{0, 0}) {
				t.Errorf("% x", got)
			}
		}
	}
}

// P20.6, W6: a new list, also where dst had the room for it; dst and message stay, with their room.
func TestPutStays(t *testing.T) {
	for _, was := range ofLengths(lengths()...) {
		for _, dst := range fronts(len(was) + 2) {
			message, front := roomy(was, 5), slices.Clone(dst)
			got := mustPut(t, dst, message)
			mustBeDisjoint(t, dst, message, got)
			mustBeWhole(t, dst, front)
			mustBeWhole(t, message, was)
			spoil(dst)
			spoil(message)
			if !bytes.Equal(got, slices.Concat(front, framed(was))) {
				t.Fatalf("%d bytes behind %d: written over", len(was), len(front))
			}
		}
	}
}

// P20.6: to write over what was answered, and over its room, changes nothing that was handed in, and no other answer.
func TestPutAnswers(t *testing.T) {
	dst, message := roomy([]byte("ahoy"), 90), roomy([]byte("keel"), 90)
	want := slices.Concat([]byte("ahoy"), framed([]byte("keel")))
	first, second := mustPut(t, dst, message), mustPut(t, dst, message)
	mustBeDisjoint(t, dst, message, first, second)
	spoil(first)
	mustBeWhole(t, dst, []byte("ahoy"))
	mustBeWhole(t, message, []byte("keel"))
	third := mustPut(t, dst, message)
	if !bytes.Equal(second, want) || !bytes.Equal(third, want) {
		t.Errorf("% x, % x", second, third)
	}
}

// P20.1, P20.6: dst and message may be of one memory, the message also in the room behind dst.
func TestPutShared(t *testing.T) {
	was := drawn(7, 40)
	for from := range len(was) {
		for to := from; to <= len(was); to++ {
			for _, n := range []int{0, 1, 5, 20, 40} {
				both := slices.Clone(was)
				got := mustPut(t, both[:n], both[from:to])
				if !bytes.Equal(got, slices.Concat(was[:n], framed(was[from:to]))) || !bytes.Equal(both, was) {
					t.Fatalf("%d bytes, and %d to %d: % x", n, from, to, got)
				}
			}
		}
	}
}

// P20.1: an answer is a dst again; what went ahead stays.
func TestPutOn(t *testing.T) {
	var line, want []byte
	for i := range 200 {
		message := drawn(i, i*7%300)
		before := slices.Clone(line)
		next := mustPut(t, line, message)
		if !bytes.Equal(line, before) {
			t.Fatalf("message %d: the list ahead of it has changed", i)
		}
		line, want = next, append(want, framed(message)...)
		if !bytes.Equal(line, want) {
			t.Fatalf("message %d", i)
		}
	}
}
