package mac_test

import (
	"bytes"
	"slices"
	"testing"

	"pintle/api"
	"pintle/mac"
	"pintle/trace"
)

func yes() api.Event { return api.Event{Kind: api.EventIf, Value: 1} }

func no() api.Event { return api.Event{Kind: api.EventIf, Value: 0} }

func at(i int) api.Event { return api.Event{Kind: api.EventAt, Value: i} }

func plus() api.Event { return api.Event{Kind: api.EventOp, Value: api.OpPlus} }

func times() api.Event { return api.Event{Kind: api.EventOp, Value: api.OpTimes} }

// loggedWrite is what Write of n bytes logs while so many are held, reckoned from how often 16 goes into what is left.
func loggedWrite(held, n int) []api.Event {
	var events []api.Event
	switch {
	case held == 0:
		events = append(events, no())
	case held+n < 16:
		events = append(events, yes(), at(held), at(n), no())
		n = 0
	default:
		events = append(events, yes(), at(held), at(16-held), yes(), plus(), times())
		n -= 16 - held
	}
	for range n / 16 {
		events = append(events, yes(), plus(), times())
	}
	if n%16 == 0 {
		return append(events, no(), no())
	}
	return append(events, no(), yes())
}

func loggedTag(held int) []api.Event {
	if held == 0 {
		return []api.Event{no()}
	}
	return []api.Event{yes(), at(held), plus(), times()}
}

// loggedOf is what Of of pieces of these lengths logs.
func loggedOf(lengths ...int) []api.Event {
	var events []api.Event
	all := 0
	for i, n := range lengths {
		events = append(events, yes(), at(i))
		events = append(events, loggedWrite(all%16, n)...)
		all += n
	}
	return append(append(events, no()), loggedTag(all%16)...)
}

func mustLog(t *testing.T, what string, got, want []api.Event) {
	t.Helper()
	if !slices.Equal(got, want) {
		t.Fatalf("%s: %v, not %v", what, got, want)
	}
}

// behind is what is logged while do runs.
func behind(r *trace.Recorder, do func()) []api.Event {
	was := r.Total()
	do()
	return slices.Collect(r.Since(was))
}

// holding is a Mac that holds so many bytes back, and its Recorder.
func holding(held int) (*mac.Mac, *trace.Recorder) {
	r := trace.New()
	m := mac.New(r, exampleKey())
	m.Write(drawn(1, held))
	return m, r
}

// P7.5, P7.6: the document's examples.
func TestLoggedExamples(t *testing.T) {
	for _, x := range []struct {
		held, n int // n below 0: Tag
		want    []api.Event
	}{
		{15, 20, []api.Event{yes(), at(15), at(1), yes(), plus(), times(), yes(), plus(), times(), no(), yes()}},
		{0, 0, []api.Event{no(), no(), no()}},
		{3, 0, []api.Event{yes(), at(3), at(0), no(), no(), no()}},
		{0, 16, []api.Event{no(), yes(), plus(), times(), no(), no()}},
		{0, 15, []api.Event{no(), no(), yes()}},
		{7, 9, []api.Event{yes(), at(7), at(9), yes(), plus(), times(), no(), no()}},
		{7, 8, []api.Event{yes(), at(7), at(8), no(), no(), no()}},
		{0, -1, []api.Event{no()}},
		{3, -1, []api.Event{yes(), at(3), plus(), times()}},
	} {
		m, r := holding(x.held)
		if x.n < 0 {
			mustLog(t, "Tag", behind(r, func() { m.Tag() }), x.want)
			mustLog(t, "the test's own list", loggedTag(x.held), x.want)
			continue
		}
		mustLog(t, "Write", behind(r, func() { m.Write(drawn(2, x.n)) }), x.want)
		mustLog(t, "the test's own list", loggedWrite(x.held, x.n), x.want)
	}
	r := trace.New()
	mac.Of(r, exampleKey())
	mustLog(t, "Of no piece", r.Events(), []api.Event{no(), no()})
}

// P7.5: New logs nothing.
func TestLoggedNew(t *testing.T) {
	for _, k := range keys() {
		r := trace.New()
		mac.New(r, k)
		mustLog(t, "New", r.Events(), nil)
	}
}

// lengths are those of a piece that are tried: each up to beyond three blocks, and those beside greater multiples of 16.
func lengths() []int {
	list := []int{65535, 65536, 65537}
	for n := range beyond + 1 {
		list = append(list, n)
	}
	for _, multiple := range []int{5 * 16, 8 * 16, 64 * 16} {
		list = append(list, multiple-1, multiple, multiple+1)
	}
	return list
}

// P7.5, P7.6: each number of bytes held, each length, and Tag behind it.
func TestLogged(t *testing.T) {
	for held := range 16 {
		for _, n := range lengths() {
			m, r := holding(held)
			mustLog(t, "Write", behind(r, func() { m.Write(drawn(3, n)) }), loggedWrite(held, n))
			for range 2 {
				mustLog(t, "Tag", behind(r, func() { m.Tag() }), loggedTag((held+n)%16))
			}
			mustLog(t, "Write of nil", behind(r, func() { m.Write(nil) }), loggedWrite((held+n)%16, 0))
			mustLog(t, "Write behind it", behind(r, func() { m.Write(drawn(4, 13)) }), loggedWrite((held+n)%16, 13))
		}
	}
}

// P7.5: the room behind a piece's end is not in what is logged.
func TestLoggedRoom(t *testing.T) {
	for held := range 16 {
		m, r := holding(held)
		mustLog(t, "Write", behind(r, func() { m.Write(make([]byte, 2, 90)) }), loggedWrite(held, 2))
	}
}

// P7.6: what is held is held on, so that a Write behind Tag logs as one without it.
func TestLoggedHeldOn(t *testing.T) {
	for held := range 16 {
		for n := range beyond + 1 {
			m, r := holding(held)
			m.Tag()
			m.Tag()
			mustLog(t, "Write behind Tag", behind(r, func() { m.Write(drawn(3, n)) }), loggedWrite(held, n))
		}
	}
}

// P7.2: each Mac logs to its own Recorder.
func TestLoggedApart(t *testing.T) {
	a, ra := holding(3)
	b, rb := holding(5)
	wasA, wasB := ra.Total(), rb.Total()
	a.Write(drawn(1, 20))
	b.Tag()
	a.Tag()
	b.Write(drawn(1, 2))
	mustLog(t, "the one", ra.Events()[wasA:], append(loggedWrite(3, 20), loggedTag(7)...))
	mustLog(t, "the other", rb.Events()[wasB:], append(loggedTag(5), loggedWrite(5, 2)...))
}

// P7.5 to P7.7: what is logged comes behind what was there; a zero Recorder is one like any.
func TestLoggedBehind(t *testing.T) {
	var r trace.Recorder
	r.At(99)
	mac.Of(&r, exampleKey(), drawn(1, 5))
	m := mac.New(&r, exampleKey())
	m.Write(drawn(1, 17))
	m.Tag()
	want := append([]api.Event{at(99)}, loggedOf(5)...)
	want = append(append(want, loggedWrite(0, 17)...), loggedTag(1)...)
	mustLog(t, "one behind the other", r.Events(), want)
}

// P7.5 to P7.7: whether there is a Recorder makes no difference to what is answered.
func TestNilRecorder(t *testing.T) {
	for held := range 16 {
		for n := range beyond + 1 {
			logs, _ := holding(held)
			silent := mac.New(nil, exampleKey())
			silent.Write(drawn(1, held))
			logs.Write(drawn(2, n))
			silent.Write(drawn(2, n))
			mustTag(t, "without a Recorder", silent.Tag(), logs.Tag())
			r := trace.New()
			tag := mac.Of(r, exampleKey(), drawn(1, held), drawn(2, n))
			mustTag(t, "Of without a Recorder", mac.Of(nil, exampleKey(), drawn(1, held), drawn(2, n)), tag)
			for _, r := range []*trace.Recorder{nil, r} {
				if !mac.Check(r, exampleKey(), tag, drawn(1, held), drawn(2, n)) || mac.Check(r, api.Key{16: 1}, tag, drawn(1, held), drawn(2, n)) {
					t.Errorf("Check hangs on the Recorder")
				}
			}
		}
	}
}

// pieceLengths are lists of lengths of pieces: none, one, many.
func pieceLengths() [][]int {
	list := [][]int{nil, {0}, {0, 0, 0}, {16, 16}, {3, 12, 20}, {1, 0, 15, 16, 17, 0}, {16, 0, 5, 11, 32, 2, 40}, make([]int, 40)}
	for n := range beyond + 1 {
		list = append(list, []int{n}, []int{n, n}, []int{5, n, 9})
	}
	return list
}

// drawnPieces are pieces of these lengths.
func drawnPieces(seed uint64, lengths []int) [][]byte {
	var list [][]byte
	for i, n := range lengths {
		list = append(list, drawn(seed+uint64(i), n))
	}
	return list
}

// P7.7: what Check logs of one piece, written out by hand.
func TestLoggedCheckExample(t *testing.T) {
	r := trace.New()
	mac.Check(r, exampleKey(), mac.Of(nil, exampleKey(), []byte{1}), []byte{1})
	mustLog(t, "Check", r.Events(), []api.Event{yes(), at(0), no(), no(), yes(), no(), yes(), at(1), plus(), times(), yes()})
}

// P7.7
func TestLoggedOf(t *testing.T) {
	for _, lengths := range pieceLengths() {
		list := drawnPieces(20, lengths)
		r := trace.New()
		tag := mac.Of(r, exampleKey(), list...)
		mustLog(t, "Of", r.Events(), loggedOf(lengths...))
		mustLog(t, "Check that holds", behind(r, func() { mac.Check(r, exampleKey(), tag, list...) }), append(loggedOf(lengths...), yes()))
		tag[15] ^= 1
		mustLog(t, "Check that does not", behind(r, func() { mac.Check(r, exampleKey(), tag, list...) }), append(loggedOf(lengths...), no()))
	}
}

// P7.9: keys, bytes and tags that are unlike leave one log; of Check the last event alone tells whether it holds.
func TestLogIsBlind(t *testing.T) {
	for _, lengths := range pieceLengths() {
		for seed, k := range keys() {
			list := drawnPieces(uint64(seed), lengths)
			if seed%3 == 0 {
				for _, piece := range list {
					copy(piece, bytes.Repeat([]byte{byte(seed * 85)}, len(piece)))
				}
			}
			r := trace.New()
			right := mac.Of(r, k, list...)
			mustLog(t, "Of", r.Events(), loggedOf(lengths...))
			for i := range 4 {
				tag := right
				tag[5*i] ^= byte(1 << i)
				mustLog(t, "Check", behind(r, func() { mac.Check(r, k, tag, list...) }), append(loggedOf(lengths...), no()))
			}
			mustLog(t, "Check", behind(r, func() { mac.Check(r, k, right, list...) }), append(loggedOf(lengths...), yes()))
		}
	}
}

// P7.8: how a message is cut makes a difference to the trace, and to it alone.
func TestCutsInTrace(t *testing.T) {
	one, two := trace.New(), trace.New()
	mustTag(t, "in two pieces", mac.Of(two, exampleKey(), drawn(1, 20)[:7], drawn(1, 20)[7:]), mac.Of(one, exampleKey(), drawn(1, 20)))
	if trace.Same(one, two) {
		t.Errorf("one piece and two leave one trace")
	}
}
