package frame_test

import (
	"slices"
	"testing"

	"pintle/api"
	"pintle/frame"
)

// lines are runs of messages: one, none in them, short ones, some of each, long ones.
func lines() [][][]byte {
	return [][][]byte{
		nil,
		ofLengths(0),
		ofLengths(1),
		ofLengths(0, 0, 0, 0, 0, 0, 0),
		ofLengths(1, 0, 2, 0, 3, 1, 1, 0, 5, 8, 13),
		ofLengths(255, 256, 257, 0, 1),
		ofLengths(0, 300, 0, 2, 200, 1),
	}
}

// P20.7, P0.11: in pieces of every length, Next asked behind each one, as often as it tells and once in vain.
func TestPieces(t *testing.T) {
	for _, messages := range lines() {
		line := lineOf(t, messages)
		for n := 1; n <= len(line)+1; n++ {
			w := watch(t)
			for piece := range slices.Chunk(line, n) {
				w.feed(piece)
				w.all()
			}
			w.mustHaveTold(messages)
		}
	}
}

// P20.7: Next asked behind the last piece alone, or ahead of each piece too, or once behind each one.
func TestAskedAtAnyTime(t *testing.T) {
	for _, messages := range lines() {
		line := lineOf(t, messages)
		for n := 1; n <= len(line); n++ {
			rare, eager, once := watch(t), watch(t), watch(t)
			for piece := range slices.Chunk(line, n) {
				rare.feed(piece)
				eager.all()
				eager.feed(nil)
				eager.all()
				eager.feed(piece)
				once.feed(piece)
				once.next()
			}
			for _, w := range []*watched{rare, eager, once} {
				w.all()
				w.mustHaveTold(messages)
			}
		}
	}
}

// P20.7: in two pieces, cut at every place, and in three, cut at every two.
func TestCutAnywhere(t *testing.T) {
	messages := ofLengths(1, 0, 20, 0, 3, 40)
	line := lineOf(t, messages)
	for first := range len(line) + 1 {
		for then := first; then <= len(line); then++ {
			w := watch(t)
			for _, piece := range [][]byte{line[:first], line[first:then], line[then:]} {
				w.feed(piece)
				w.all()
			}
			w.mustHaveTold(messages)
		}
	}
}

// P20.7: messages at the limit, in pieces of many lengths, byte by byte too.
func TestLongMessages(t *testing.T) {
	messages := ofLengths(api.MaxMessage, 0, api.MaxMessage-1, 1, 32768, api.MaxMessage)
	line := lineOf(t, messages)
	for _, n := range []int{1, 2, 3, 5, 255, 256, 4096, 65535, 65536, 65537, 65538, 131072, len(line) - 1, len(line)} {
		w := watch(t)
		for piece := range slices.Chunk(line, n) {
			w.feed(piece)
			w.all()
		}
		w.mustHaveTold(messages)
	}
}

// P20.7, P0.11: pieces and questions by fixed draws, with many bytes kept and with few.
func TestDrawnPieces(t *testing.T) {
	for seed := range 300 {
		draws := drawn(seed, 400)
		var messages [][]byte
		for i := range 120 {
			messages = append(messages, drawn(seed+i, int(draws[i])*(1+seed%3)/(1+i%9)))
		}
		line := lineOf(t, messages)
		w := watch(t)
		for i := 0; len(line) > 0; i++ {
			n := min(len(line), int(draws[i%len(draws)])*(1+i%7)/(1+seed%11))
			if n == 0 && i%5 == 0 {
				n = 1
			}
			w.feed(line[:n])
			line = line[n:]
			for range draws[(i+7)%len(draws)] % 4 {
				w.next()
			}
		}
		w.all()
		w.mustHaveTold(messages)
	}
}

// P20.7: a long run, in which never all is told: what is kept goes to the front now and then.
func TestLongRun(t *testing.T) {
	for _, lag := range []int{1, 2, 3, 50, 1000} {
		w := watch(t)
		var messages [][]byte
		for i := range 20000 {
			m := drawn(i, i*i%23)
			messages = append(messages, m)
			w.feed(framed(m))
			if i >= lag {
				w.next()
			}
		}
		w.all()
		w.mustHaveTold(messages)
	}
}

// P20.7: many frames are told in a time that goes with their number; moving all of them at each one would take hours.
func TestManyFrames(t *testing.T) {
	const frames = 1 << 22
	var r frame.Reader
	r.Feed(make([]byte, 2*frames))
	for i := range frames {
		if m, ok := r.Next(); !ok || len(m) != 0 {
			t.Fatalf("message %d: %d bytes, %v", i, len(m), ok)
		}
	}
	if m, ok := r.Next(); ok || len(m) != 0 || r.Held() != 0 {
		t.Fatalf("behind the last one: %d bytes, %v, %d held", len(m), ok, r.Held())
	}
}

// P20.7: so are those that come and go in turns, while many are kept.
func TestManyInTurns(t *testing.T) {
	const frames, kept = 1 << 20, 1 << 20
	var r frame.Reader
	r.Feed(make([]byte, 2*kept))
	for i := range frames {
		r.Feed([]byte{0, 1, byte(i)})
		if m, ok := r.Next(); !ok || len(m) != 0 {
			t.Fatalf("message %d: %d bytes, %v", i, len(m), ok)
		}
		if want := 2*kept + i + 1; r.Held() != want {
			t.Fatalf("%d held behind message %d, not %d", r.Held(), i, want)
		}
	}
	for i := range frames {
		if m, ok := r.Next(); !ok || len(m) != 1 || m[0] != byte(i) {
			t.Fatalf("message %d: %x, %v", i, m, ok)
		}
	}
	if r.Held() != 0 {
		t.Fatalf("%d held", r.Held())
	}
}
