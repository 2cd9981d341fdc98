package frame_test

import (
	"bytes"
	"slices"
	"testing"

	"pintle/api"
	"pintle/frame"
)

// P20.2, P20.3, P20.4: a zero Reader has no byte, and feeding it none changes nothing.
func TestZero(t *testing.T) {
	w := watch(t)
	w.mustHold()
	for range 3 {
		w.all()
		w.feed(nil)
		w.feed([]byte{})
		w.feed(make([]byte, 0, 9))
	}
	w.mustHaveTold(nil)
}

// P20.2, P20.4: pieces of no byte, of one, of many come behind what is kept.
func TestFeed(t *testing.T) {
	message := drawn(1, 1000)
	line := mustPut(t, nil, message)
	for _, n := range []int{0, 1, 2, 3, 500, 1001, 1002} {
		w := watch(t)
		w.feed(line[:n])
		w.feed(nil)
		for _, one := range line[n:] {
			w.feed([]byte{one})
		}
		w.all()
		w.mustHaveTold([][]byte{message})
	}
}

// P20.2: what is fed comes behind messages that were told, and behind a part of one.
func TestFeedBehindTold(t *testing.T) {
	messages := ofLengths(5, 0, 300, 1, 0, 0, 70, 256, 2)
	for part := range 9 {
		w := watch(t)
		var line []byte
		for _, m := range messages {
			line = mustPut(t, line, m)
			n := max(0, len(line)-part) // what is left is a part of a frame, or of several
			w.feed(line[:n])
			line = line[n:]
			w.all()
		}
		w.feed(line)
		w.all()
		w.mustHaveTold(messages)
	}
}

// P20.3, P20.4: each beginning of a frame is not whole; all is kept, however often it is asked for in vain.
func TestNextInVain(t *testing.T) {
	for _, message := range ofLengths(0, 1, 2, 255, 256, 300) {
		line := framed(message)
		for n := range line {
			w := watch(t)
			w.feed(line[:n])
			for range 3 {
				if w.next() {
					t.Fatalf("%d bytes of %d are told", n, len(line))
				}
			}
			w.feed(line[n:])
			w.all()
			w.mustHaveTold([][]byte{message})
		}
	}
}

// P20.3: a length without its message, at its edges, and all but the last byte; with it, the message is told.
func TestNextLengths(t *testing.T) {
	for _, message := range ofLengths(lengths()...) {
		line := framed(message)
		w := watch(t)
		for _, n := range []int{1, 2, len(line) - 1, len(line)} {
			if n <= len(w.fed) {
				continue
			}
			w.feed(line[len(w.fed):n])
			if told := w.next(); told != (n == len(line)) {
				t.Fatalf("%d bytes of %d: %v", n, len(line), told)
			}
		}
		w.all()
		w.mustHaveTold([][]byte{message})
	}
}

// P20.3: a whole frame with more behind it: the next one's beginning is kept.
func TestNextMoreBehind(t *testing.T) {
	for _, message := range ofLengths(0, 1, 2, 255, 256, 300) {
		for _, then := range ofLengths(0, 1, 2, 255, 256, 300) {
			line, behind := framed(message), framed(then)
			for n := range behind {
				w := watch(t)
				w.feed(append(slices.Clone(line), behind[:n]...))
				w.all()
				if len(w.told) != 1 || w.r.Held() != n {
					t.Fatalf("%d told, %d held, not 1 and %d", len(w.told), w.r.Held(), n)
				}
				w.feed(behind[n:])
				w.all()
				w.mustHaveTold([][]byte{message, then})
			}
		}
	}
}

// P20.3: no length is refused: each one, the message told with its last byte and not ahead of it.
func TestNextEveryLength(t *testing.T) {
	message := drawn(4, api.MaxMessage)
	w := watch(t)
	var want [][]byte
	for n := 0; n <= len(message); n += 1 + n/100 {
		line := framed(message[:n])
		w.feed(line[:len(line)-1])
		if w.next() {
			t.Fatalf("a message of %d bytes is told ahead of its last byte", n)
		}
		w.feed(line[len(line)-1:])
		if !w.next() {
			t.Fatalf("a message of %d bytes is not told", n)
		}
		want = append(want, message[:n])
	}
	w.mustHaveTold(want)
}

// P20.3: any bytes are the beginning of some frames.
func TestAnyBytes(t *testing.T) {
	for seed := range 60 {
		line := drawn(seed, 4000*seed)
		for i := range line {
			if seed%3 > 0 && i%2 == 0 { // short frames come up more often so
				line[i] = 0
			}
		}
		w := watch(t)
		for piece := range slices.Chunk(line, 1+seed*seed) {
			w.feed(piece)
			w.all()
		}
	}
}

// P20.3: many frames at once, without a byte in them and with some.
func TestManyAtOnce(t *testing.T) {
	var messages [][]byte
	for i := range 3000 {
		messages = append(messages, drawn(i, i%4*(i%90)))
	}
	w := watch(t)
	w.feed(lineOf(t, messages))
	w.all()
	w.mustHaveTold(messages)
}

// P20.3: a length in two pieces, the higher byte first.
func TestLengthInTwo(t *testing.T) {
	w := watch(t)
	message := drawn(8, 0x102)
	for _, piece := range [][]byte{{1}, {2}, message[:0x101], message[0x101:]} {
		if w.next() {
			t.Fatalf("told behind %d bytes", len(w.fed))
		}
		w.feed(piece)
	}
	w.all()
	w.mustHaveTold([][]byte{message})
}

// P20.5, W8: a nil Reader keeps nothing, whatever it is fed.
func TestNil(t *testing.T) {
	var none *frame.Reader
	for _, p := range [][]byte{nil, {}, {0}, {0, 0}, framed([]byte("keel")), make([]byte, 1<<17)} {
		none.Feed(p)
		if got, ok := none.Next(); ok || len(got) != 0 || none.Held() != 0 {
			t.Fatalf("%x, %v, %d", got, ok, none.Held())
		}
	}
}

// W2: Readers that are used in turns have nothing in common.
func TestTurns(t *testing.T) {
	const readers = 3
	var messages [readers][][]byte
	var lines [readers][]byte
	var all [readers]*watched
	for i := range readers {
		messages[i] = ofLengths(3*i, 0, 40+i, 300*i, 1, 1, 257)
		lines[i] = lineOf(t, messages[i])
		all[i] = watch(t)
	}
	for step := range 1000 {
		for i, w := range all {
			n := min(len(lines[i]), 1+(step+i)%5*i)
			w.feed(lines[i][:n])
			lines[i] = lines[i][n:]
			if (step+i)%3 == 0 {
				w.next()
			}
		}
	}
	for i, w := range all {
		w.all()
		w.mustHaveTold(messages[i])
	}
}

// W8: a Reader that is copied goes on in its copy.
func TestCopied(t *testing.T) {
	messages := ofLengths(9, 0, 300, 4)
	w := watch(t)
	for piece := range slices.Chunk(lineOf(t, messages), 5) {
		w.feed(piece)
		other := *w.r
		w.r = &other
		w.next()
	}
	w.all()
	w.mustHaveTold(messages)
}

// P20.6: p stays as it was, with its room, and may be written over behind Feed.
func TestFedStays(t *testing.T) {
	messages := ofLengths(5, 0, 300, 1, 0, 256, 70, api.MaxMessage, 2)
	line := lineOf(t, messages)
	for _, n := range []int{1, 2, 3, 7, 64, 1000, len(line)} {
		for _, room := range []int{0, 1, 90, 2 * n} {
			stays, spoiled := watch(t), watch(t)
			for piece := range slices.Chunk(line, n) {
				p := roomy(piece, room)
				stays.feed(p)
				stays.next()
				mustBeWhole(t, p, piece)
				spoiled.feed(p)
				spoil(p)
				spoiled.next()
			}
			for _, w := range []*watched{stays, spoiled} {
				w.all()
				w.mustHaveTold(messages)
			}
		}
	}
}

// P20.6: the room behind what was fed stays also when later pieces come, and when messages are told.
func TestFedRoomStays(t *testing.T) {
	w := watch(t)
	first := roomy(framed([]byte("keel")), 500)
	w.feed(first)
	w.feed(framed([]byte("and")))
	w.next()
	w.feed(framed([]byte("rudder")))
	w.all()
	mustBeWhole(t, first, framed([]byte("keel")))
	w.mustHaveTold([][]byte{[]byte("keel"), []byte("and"), []byte("rudder")})
}

// P20.6, W6: messages that were told share no memory, their room neither; to write over one, and to append to it, changes no other one, nothing that is kept, and no later answer.
func TestToldIsNew(t *testing.T) {
	messages := ofLengths(5, 0, 300, 1, 0, 256, 70, 8, 16, 32, 33, api.MaxMessage, 2)
	line := lineOf(t, messages)
	for _, n := range []int{1, 7, 64, 1000, len(line)} {
		var r frame.Reader
		told := [][]byte{line}
		i := 0
		for piece := range slices.Chunk(line, n) {
			r.Feed(piece)
			for {
				got, ok := r.Next()
				if !ok {
					break
				}
				if !bytes.Equal(got, messages[i]) {
					t.Fatalf("pieces of %d: message %d has been written over", n, i)
				}
				told = append(told, got)
				spoil(got)
				_ = append(got, 1, 2, 3, 4, 5, 6, 7, 8)
				i++
			}
		}
		if i != len(messages) || r.Held() != 0 {
			t.Fatalf("pieces of %d: %d messages, %d held", n, i, r.Held())
		}
		mustBeDisjoint(t, told...)
	}
}

// P20.6: what is fed and told later changes no message that was told before.
func TestToldStays(t *testing.T) {
	w := watch(t)
	var messages [][]byte
	for i := range 500 {
		m := drawn(i, i*i%700)
		messages = append(messages, m)
		w.feed(framed(m))
		if i%3 == 0 {
			w.next()
		}
	}
	w.all()
	w.mustHaveTold(messages)
	mustBeDisjoint(t, w.told...)
}

// P20.6: a message that was told may be fed again, to the same Reader too.
func TestToldIsFed(t *testing.T) {
	inner := framed(framed(framed([]byte("keel"))))
	var r frame.Reader
	r.Feed(inner)
	for _, want := range [][]byte{inner[2:], inner[4:], inner[6:]} {
		got, ok := r.Next()
		if !ok || !bytes.Equal(got, want) {
			t.Fatalf("%x, %v, not %x", got, ok, want)
		}
		r.Feed(got)
	}
	if r.Held() != 4 {
		t.Errorf("%d held", r.Held())
	}
}
