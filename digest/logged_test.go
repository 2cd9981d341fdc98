package digest_test

import (
	"bytes"
	"math"
	"slices"
	"testing"

	"pintle/api"
	"pintle/digest"
	"pintle/trace"
)

func yes() api.Event { return api.Event{Kind: api.EventIf, Value: 1} }

func no() api.Event { return api.Event{Kind: api.EventIf, Value: 0} }

func at(i int) api.Event { return api.Event{Kind: api.EventAt, Value: i} }

func press() api.Event { return api.Event{Kind: api.EventOp, Value: api.OpPress} }

// loggedNew is what a New that is not refused logs.
func loggedNew(key int) []api.Event {
	if key > 0 {
		return []api.Event{no(), no(), no(), yes()}
	}
	return []api.Event{no(), no(), no(), no()}
}

// loggedWrite is what Write of n bytes logs while so many are held.
func loggedWrite(held, n int) []api.Event {
	var events []api.Event
	for n > 0 {
		if held < 64 {
			events = append(events, yes(), no(), at(held))
		} else {
			events = append(events, yes(), yes(), press(), at(0))
			held = 0
		}
		k := min(64-held, n)
		events = append(events, at(k))
		held += k
		n -= k
	}
	return append(events, no())
}

func loggedSum(held int) []api.Event { return []api.Event{at(held), press()} }

// heldOf is how many of so many bytes in all are held back.
func heldOf(all int) int {
	if all == 0 {
		return 0
	}
	return (all-1)%64 + 1
}

// loggedOf is what Of of pieces of these lengths logs.
func loggedOf(lengths ...int) []api.Event {
	events := loggedNew(0)
	all := 0
	for i, n := range lengths {
		events = append(events, yes(), at(i))
		events = append(events, loggedWrite(heldOf(all), n)...)
		all += n
	}
	return append(append(events, no()), loggedSum(heldOf(all))...)
}

func mustLog(t *testing.T, what string, got, want []api.Event) {
	t.Helper()
	if !slices.Equal(got, want) {
		t.Fatalf("%s: %v, not %v", what, got, want)
	}
}

// behind is what is logged while do runs.
func behind(r *trace.Recorder, do func()) []api.Event {
	was := r.Total()
	do()
	return slices.Collect(r.Since(was))
}

// holding is a Hash that holds so many bytes back, and its Recorder.
func holding(t *testing.T, held int) (*digest.Hash, *trace.Recorder) {
	t.Helper()
	r := trace.New()
	h := mustNew(t, r, 32, nil)
	h.Write(drawn(1, held))
	return h, r
}

// P8.6 to P8.9: the document's examples.
func TestLoggedExamples(t *testing.T) {
	r := trace.New()
	h := mustNew(t, r, 32, nil)
	mustLog(t, "New", r.Events(), []api.Event{no(), no(), no(), no()})
	mustLog(t, "New of the size 40", behind(r, func() { digest.New(r, 40, nil) }), []api.Event{no(), yes()})
	want := []api.Event{yes(), no(), at(0), at(64), yes(), yes(), press(), at(0), at(1), no()}
	mustLog(t, "Write of 65 bytes", behind(r, func() { h.Write(drawn(2, 65)) }), want)
	mustLog(t, "the test's own list", loggedWrite(0, 65), want)
	mustLog(t, "Sum", behind(r, func() { h.Sum() }), []api.Event{at(1), press()})
	mustLog(t, "Of no piece", behind(r, func() { digest.Of(r) }), []api.Event{no(), no(), no(), no(), no(), at(0), press()})
}

// P8.7, P8.8: written out by hand, at the ends of what may be held.
func TestLoggedByHand(t *testing.T) {
	for _, x := range []struct {
		held, n int // n below 0: Sum
		want    []api.Event
	}{
		{0, 0, []api.Event{no()}},
		{64, 0, []api.Event{no()}},
		{0, 1, []api.Event{yes(), no(), at(0), at(1), no()}},
		{0, 64, []api.Event{yes(), no(), at(0), at(64), no()}},
		{63, 1, []api.Event{yes(), no(), at(63), at(1), no()}},
		{63, 2, []api.Event{yes(), no(), at(63), at(1), yes(), yes(), press(), at(0), at(1), no()}},
		{64, 1, []api.Event{yes(), yes(), press(), at(0), at(1), no()}},
		{64, 65, []api.Event{yes(), yes(), press(), at(0), at(64), yes(), yes(), press(), at(0), at(1), no()}},
		{0, -1, []api.Event{at(0), press()}},
		{63, -1, []api.Event{at(63), press()}},
		{64, -1, []api.Event{at(64), press()}},
	} {
		h, r := holding(t, x.held)
		if x.n < 0 {
			mustLog(t, "Sum", behind(r, func() { h.Sum() }), x.want)
			continue
		}
		mustLog(t, "Write", behind(r, func() { h.Write(drawn(2, x.n)) }), x.want)
		mustLog(t, "the test's own list", loggedWrite(x.held, x.n), x.want)
	}
}

// P8.6: New, for each size and each length of a key.
func TestLoggedNew(t *testing.T) {
	for size := 1; size <= 32; size++ {
		for k := range 33 {
			r := trace.New()
			h := mustNew(t, r, size, drawn(1, k))
			mustLog(t, "New", r.Events(), loggedNew(k))
			held := 64
			if k == 0 {
				held = 0
			}
			mustLog(t, "Sum behind it", behind(r, func() { h.Sum() }), loggedSum(held))
			mustLog(t, "Write behind it", behind(r, func() { h.Write([]byte{1}) }), loggedWrite(held, 1))
		}
	}
}

// P8.6: a New that is refused.
func TestLoggedRefused(t *testing.T) {
	logged := func(size, key int, want ...api.Event) {
		t.Helper()
		r := trace.New()
		digest.New(r, size, make([]byte, key))
		mustLog(t, "a refused New", r.Events(), want)
	}
	for _, key := range []int{0, 1, 32, 33, 64} {
		for _, size := range []int{0, -1, math.MinInt} {
			logged(size, key, yes())
		}
		for _, size := range []int{33, 64, math.MaxInt} {
			logged(size, key, no(), yes())
		}
	}
	for _, key := range []int{33, 64, 65} {
		for _, size := range []int{1, 16, 32} {
			logged(size, key, no(), no(), yes())
		}
	}
}

// lengths are those of a piece that are tried: each up to beyond three blocks, and those beside greater multiples of 64.
func lengths() []int {
	var list []int
	for n := range beyond + 1 {
		list = append(list, n)
	}
	for _, multiple := range []int{4 * 64, 5 * 64, 8 * 64, 64 * 64, 1024 * 64} {
		list = append(list, multiple-1, multiple, multiple+1)
	}
	return list
}

// P8.7, P8.8: each number of bytes held, and Sum behind it, asked again.
func TestLogged(t *testing.T) {
	for held := range 65 {
		for _, n := range lengths() {
			if n > beyond && held%13 > 0 {
				continue
			}
			h, r := holding(t, held)
			mustLog(t, "Write", behind(r, func() { h.Write(drawn(3, n)) }), loggedWrite(held, n))
			now := heldOf(held + n)
			for range 2 {
				mustLog(t, "Sum", behind(r, func() { h.Sum() }), loggedSum(now))
			}
			mustLog(t, "Write of nil", behind(r, func() { h.Write(nil) }), loggedWrite(now, 0))
			mustLog(t, "Write behind it", behind(r, func() { h.Write(drawn(4, 13)) }), loggedWrite(now, 13))
		}
	}
}

// P8.7: of a keyed one 64 bytes are held from the beginning on.
func TestLoggedKeyed(t *testing.T) {
	for _, n := range lengths() {
		r := trace.New()
		h := mustNew(t, r, 9, drawn(1, 5))
		mustLog(t, "Write", behind(r, func() { h.Write(drawn(3, n)) }), loggedWrite(64, n))
		mustLog(t, "Sum", behind(r, func() { h.Sum() }), loggedSum(heldOf(64+n)))
	}
}

// P8.7: the room behind a piece's end is not in what is logged.
func TestLoggedRoom(t *testing.T) {
	for held := range 65 {
		h, r := holding(t, held)
		mustLog(t, "Write", behind(r, func() { h.Write(make([]byte, 2, 190)) }), loggedWrite(held, 2))
	}
}

// P8.8: what is held is held on, so that a Write behind Sum logs as one without it.
func TestLoggedHeldOn(t *testing.T) {
	for held := range 65 {
		for _, n := range []int{0, 1, 62, 63, 64, 65, 127, 128, 129} {
			h, r := holding(t, held)
			h.Sum()
			h.Sum()
			mustLog(t, "Write behind Sum", behind(r, func() { h.Write(drawn(3, n)) }), loggedWrite(held, n))
		}
	}
}

// P8.2: each Hash logs to its own Recorder.
func TestLoggedApart(t *testing.T) {
	a, ra := holding(t, 3)
	b, rb := holding(t, 5)
	wasA, wasB := ra.Total(), rb.Total()
	a.Write(drawn(1, 70))
	b.Sum()
	a.Sum()
	b.Write(drawn(1, 2))
	mustLog(t, "the one", ra.Events()[wasA:], append(loggedWrite(3, 70), loggedSum(9)...))
	mustLog(t, "the other", rb.Events()[wasB:], append(loggedSum(5), loggedWrite(5, 2)...))
}

// P8.6 to P8.9: what is logged comes behind what was there; a zero Recorder is one like any.
func TestLoggedBehind(t *testing.T) {
	var r trace.Recorder
	r.At(99)
	digest.Of(&r, drawn(1, 5))
	h := mustNew(t, &r, 3, []byte{1})
	h.Write(drawn(1, 17))
	h.Sum()
	want := slices.Concat([]api.Event{at(99)}, loggedOf(5), loggedNew(1), loggedWrite(64, 17), loggedSum(17))
	mustLog(t, "one behind the other", r.Events(), want)
}

// P8.6 to P8.9: whether there is a Recorder makes no difference to what is answered.
func TestNilRecorder(t *testing.T) {
	for held := range 65 {
		for _, n := range []int{0, 1, 63, 64, 65, 128, 129} {
			logs, r := holding(t, held)
			silent := mustNew(t, nil, 32, nil)
			silent.Write(drawn(1, held))
			logs.Write(drawn(2, n))
			silent.Write(drawn(2, n))
			mustSum(t, "without a Recorder", silent.Sum(), logs.Sum())
			want := digest.Of(r, drawn(1, held), drawn(2, n))
			mustOf(t, "Of without a Recorder", digest.Of(nil, drawn(1, held), drawn(2, n)), want[:])
		}
	}
}

// pieceLengths are lists of lengths of pieces: none, one, many.
func pieceLengths() [][]int {
	list := [][]int{nil, {0}, {0, 0, 0}, {64, 64}, {3, 60, 70}, {1, 0, 63, 64, 65, 0}, {64, 0, 5, 59, 128, 2, 200}, make([]int, 40)}
	for n := range beyond + 1 {
		list = append(list, []int{n}, []int{n, n}, []int{5, n, 9})
	}
	return list
}

// drawnPieces are pieces of these lengths.
func drawnPieces(seed uint64, lengths []int) [][]byte {
	var list [][]byte
	for i, n := range lengths {
		list = append(list, drawn(seed+uint64(i), n))
	}
	return list
}

// P8.9: Of two pieces, written out by hand, and of no piece, one and many.
func TestLoggedOf(t *testing.T) {
	r := trace.New()
	digest.Of(r, []byte{1}, nil)
	mustLog(t, "Of two pieces", r.Events(), []api.Event{no(), no(), no(), no(), yes(), at(0), yes(), no(), at(0), at(1), no(), yes(), at(1), no(), no(), at(1), press()})
	for _, lengths := range pieceLengths() {
		r := trace.New()
		digest.Of(r, drawnPieces(20, lengths)...)
		mustLog(t, "Of", r.Events(), loggedOf(lengths...))
	}
}

// P8.11: unlike keys and bytes of the same lengths leave one log.
func TestLogIsBlind(t *testing.T) {
	for i, lengths := range pieceLengths() {
		for seed := range uint64(4) {
			list := drawnPieces(seed, lengths)
			key := drawn(seed, i%33)
			if seed < 2 {
				key = bytes.Repeat([]byte{byte(seed * 255)}, i%33)
				for _, piece := range list {
					copy(piece, bytes.Repeat([]byte{byte(seed * 255)}, len(piece)))
				}
			}
			r := trace.New()
			digest.Of(r, list...)
			mustLog(t, "Of", r.Events(), loggedOf(lengths...))
			r = trace.New()
			h := mustNew(t, r, 1+i%32, key)
			want := loggedNew(len(key))
			all := min(len(key), 1) * 64
			for _, piece := range list {
				h.Write(piece)
				h.Sum()
				want = append(want, loggedWrite(heldOf(all), len(piece))...)
				all += len(piece)
				want = append(want, loggedSum(heldOf(all))...)
			}
			mustLog(t, "a Hash", r.Events(), want)
		}
	}
}

// P8.10: how a message is cut makes a difference to the trace, and to it alone.
func TestCutsInTrace(t *testing.T) {
	one, two := trace.New(), trace.New()
	want := digest.Of(one, drawn(1, 90))
	mustOf(t, "in two pieces", digest.Of(two, drawn(1, 90)[:7], drawn(1, 90)[7:]), want[:])
	if trace.Same(one, two) {
		t.Errorf("one piece and two leave one trace")
	}
}
