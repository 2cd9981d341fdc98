package frame_test

import (
	"bytes"
	"encoding/binary"
	"slices"
	"testing"
	"unsafe"

	"pintle/api"
	"pintle/frame"
)

// drawn is bytes by a fixed rule, so that every run sees the same ones; each seed has its own.
func drawn(seed, n int) []byte {
	list := make([]byte, n)
	x := uint64(seed)
	for i := range list {
		x = x*6364136223846793005 + 1442695040888963407
		list[i] = byte(x >> 56)
	}
	return list
}

// framed is the frame of a message by the library's reckoning.
func framed(message []byte) []byte {
	return append(binary.BigEndian.AppendUint16(nil, uint16(len(message))), message...)
}

// lengths are those of messages at the edges of one byte and of two.
func lengths() []int {
	return []int{0, 1, 2, 3, 127, 128, 254, 255, 256, 257, 258, 511, 512, 32767, 32768, 65279, 65280, 65281, 65534, api.MaxMessage}
}

// ofLengths is a message of each of these lengths.
func ofLengths(all ...int) [][]byte {
	var list [][]byte
	for i, n := range all {
		list = append(list, drawn(i, n))
	}
	return list
}

// mustPut is Put of what may be put.
func mustPut(t *testing.T, dst, message []byte) []byte {
	t.Helper()
	got, err := frame.Put(dst, message)
	if err != nil {
		t.Fatalf("Put of %d bytes behind %d: %v", len(message), len(dst), err)
	}
	return got
}

// lineOf is the frames of messages, put one behind the other.
func lineOf(t *testing.T, messages [][]byte) []byte {
	t.Helper()
	var line []byte
	for _, m := range messages {
		line = mustPut(t, line, m)
	}
	return line
}

// watched is a Reader, each call of which is held against all that was fed and told.
type watched struct {
	t      *testing.T
	r      *frame.Reader
	fed    []byte
	behind int // bytes of fed that were told, with their lengths
	told   [][]byte
}

func watch(t *testing.T) *watched { return &watched{t: t, r: new(frame.Reader)} }

func (w *watched) mustHold() {
	w.t.Helper()
	if got, want := w.r.Held(), len(w.fed)-w.behind; got != want {
		w.t.Fatalf("Held behind %d bytes and %d messages: %d, not %d", len(w.fed), len(w.told), got, want)
	}
}

func (w *watched) feed(p []byte) {
	w.t.Helper()
	w.r.Feed(p)
	w.fed = append(w.fed, p...)
	w.mustHold()
}

// due is the message that Next has to tell, and whether there is one.
func (w *watched) due() ([]byte, bool) {
	kept := w.fed[w.behind:]
	if len(kept) < 2 || len(kept)-2 < int(binary.BigEndian.Uint16(kept)) {
		return nil, false
	}
	return kept[2:][:binary.BigEndian.Uint16(kept)], true
}

// next asks for a message, and tells whether there was one.
func (w *watched) next() bool {
	w.t.Helper()
	want, there := w.due()
	got, ok := w.r.Next()
	if ok != there || !bytes.Equal(got, want) {
		w.t.Fatalf("Next behind %d bytes and %d messages: %d bytes and %v, not %d and %v", len(w.fed), len(w.told), len(got), ok, len(want), there)
	}
	if ok {
		w.told = append(w.told, got)
		w.behind += 2 + len(got)
	}
	w.mustHold()
	return ok
}

// all asks for messages until there is none, and then in vain once more.
func (w *watched) all() {
	w.t.Helper()
	for w.next() {
	}
	if w.next() {
		w.t.Fatal("Next tells what it did not tell before, and nothing was fed")
	}
}

// mustHaveTold asks for just these messages, and nothing behind them.
func (w *watched) mustHaveTold(messages [][]byte) {
	w.t.Helper()
	if !slices.EqualFunc(w.told, messages, bytes.Equal) {
		w.t.Fatalf("%d messages, not those %d that were put", len(w.told), len(messages))
	}
	if w.r.Held() != 0 {
		w.t.Fatalf("%d bytes are held behind the last message", w.r.Held())
	}
}

// stretch is memory, from one address up to another.
type stretch struct{ from, to uintptr }

// listAt is where a list stands, its spare room too.
func listAt(list []byte) stretch {
	from := uintptr(unsafe.Pointer(unsafe.SliceData(list)))
	return stretch{from, from + uintptr(cap(list))}
}

// mustBeDisjoint asks that no two lists have a byte in common.
func mustBeDisjoint(t *testing.T, lists ...[]byte) {
	t.Helper()
	var all []stretch
	for _, one := range lists {
		if at := listAt(one); at.from != at.to {
			all = append(all, at)
		}
	}
	slices.SortFunc(all, func(a, b stretch) int {
		if a.from < b.from {
			return -1
		}
		return 1
	})
	for i := 1; i < len(all); i++ {
		if all[i].from < all[i-1].to {
			t.Fatal("memory is shared")
		}
	}
}

// spoil writes over a list and the room behind its end.
func spoil(list []byte) {
	for i := range list[:cap(list)] {
		list[:cap(list)][i] ^= 0x5a
	}
}

// roomy is the same bytes in other memory, with so much marked room behind them.
func roomy(list []byte, room int) []byte {
	return append(slices.Clone(list), bytes.Repeat([]byte{91}, room)...)[: len(list) : len(list)+room]
}

// mustBeWhole asks that a list is what it was, with the marks behind its end.
func mustBeWhole(t *testing.T, list, was []byte) {
	t.Helper()
	room := list[len(list):cap(list)]
	if !bytes.Equal(list, was) || !bytes.Equal(room, bytes.Repeat([]byte{91}, len(room))) {
		t.Fatalf("a list of %d bytes is not as it was", len(was))
	}
}

// The document's examples.
func TestExamples(t *testing.T) {
	if got := mustPut(t, nil, []byte("keel")); !bytes.Equal(got, []byte{0, 4, 0x6b, 0x65, 0x65, 0x6c}) {
		t.Errorf("%x", got)
	}
	if got := mustPut(t, []byte{0xff}, nil); !bytes.Equal(got, []byte{0xff, 0, 0}) {
		t.Errorf("%x", got)
	}
	if got := mustPut(t, nil, make([]byte, 65535)); len(got) != 65537 {
		t.Errorf("%d bytes", len(got))
	}
	if got, err := frame.Put(nil, make([]byte, 65536)); err != api.ErrLong || len(got) != 0 {
		t.Errorf("%d bytes, %v", len(got), err)
	}
}

// The document's examples of a Reader.
func TestReaderExamples(t *testing.T) {
	var r frame.Reader
	for _, one := range []byte{0x00, 0x02, 0x61} {
		r.Feed([]byte{one})
		if got, ok := r.Next(); ok || len(got) != 0 {
			t.Errorf("behind %x: %q, %v", one, got, ok)
		}
	}
	if r.Held() != 3 {
		t.Errorf("%d held", r.Held())
	}
	r.Feed([]byte{0x62, 0x00, 0x00, 0x00})
	for i, want := range []struct {
		text string
		ok   bool
	}{{"ab", true}, {"", true}, {"", false}} {
		if got, ok := r.Next(); ok != want.ok || string(got) != want.text {
			t.Errorf("Next %d: %q, %v", i, got, ok)
		}
	}
	if r.Held() != 1 {
		t.Errorf("%d held", r.Held())
	}
	var none *frame.Reader
	none.Feed([]byte{0, 0})
	if got, ok := none.Next(); ok || len(got) != 0 || none.Held() != 0 {
		t.Errorf("a nil Reader: %q, %v, %d", got, ok, none.Held())
	}
}
