package trace_test

import (
	"fmt"
	"iter"
	"math"
	"slices"
	"testing"

	"pintle/api"
	"pintle/trace"
)

// five is the Recorder of the document's examples.
func five() *trace.Recorder {
	r := trace.New()
	r.If(true)
	r.At(7)
	r.At(7)
	r.Op(3)
	r.If(false)
	return r
}

func fiveEvents() []api.Event {
	return []api.Event{{Kind: 1, Value: 1}, {Kind: 2, Value: 7}, {Kind: 2, Value: 7}, {Kind: 3, Value: 3}, {Kind: 1, Value: 0}}
}

// ask logs an event of any of the three kinds; of EventIf the value is 0 or 1.
func ask(r *trace.Recorder, e api.Event) {
	switch e.Kind {
	case api.EventIf:
		r.If(e.Value == 1)
	case api.EventAt:
		r.At(e.Value)
	case api.EventOp:
		r.Op(e.Value)
	}
}

func recorderOf(events []api.Event) *trace.Recorder {
	r := trace.New()
	for _, e := range events {
		ask(r, e)
	}
	return r
}

// lists are logs of many forms: empty ones, ones of like events alone, ones with like events apart, long ones.
func lists() [][]api.Event {
	at, op, yes, no := api.Event{Kind: 2, Value: 1}, api.Event{Kind: 3, Value: 1}, api.Event{Kind: 1, Value: 1}, api.Event{Kind: 1, Value: 0}
	all := [][]api.Event{
		{},
		{at},
		{at, at, at},
		{at, op},
		{at, op, at},
		{at, at, op, op, at, at},
		{yes, no, yes, yes, no, no},
		{yes, at, op, yes, at, op},
		{{Kind: 2, Value: math.MinInt}, {Kind: 2, Value: math.MaxInt}, {Kind: 3, Value: -1}, {Kind: 3, Value: -1}},
		fiveEvents(),
	}
	var long []api.Event
	x := uint32(1)
	for range 3000 { // a fixed rule, so that every run sees the same events
		x = x*1664525 + 1013904223
		kind, value := 1+int(x>>30)%3, int(x>>20)&1
		long = append(long, api.Event{Kind: kind, Value: value})
	}
	return append(all, long)
}

func mustBe(t *testing.T, what string, got, want []api.Event) {
	t.Helper()
	if !slices.Equal(got, want) {
		t.Errorf("%s: %v, not %v", what, got, want)
	}
}

// mustHold asks a Recorder in every way what it has logged.
func mustHold(t *testing.T, what string, r *trace.Recorder, want []api.Event) {
	t.Helper()
	mustBe(t, what+": Events", r.Events(), want)
	mustBe(t, what+": Since(0)", slices.Collect(r.Since(0)), want)
	mustBe(t, what+": Runs", written(r.Runs()), want)
	if r.Total() != len(want) {
		t.Errorf("%s: Total is %d, not %d", what, r.Total(), len(want))
	}
}

// written is the events of rows, each as often as its Times says.
func written(runs []api.Run) []api.Event {
	var all []api.Event
	for _, run := range runs {
		for range run.Times {
			all = append(all, run.Event)
		}
	}
	return all
}

func TestNew(t *testing.T) { // P2.1
	var zero trace.Recorder
	for what, r := range map[string]*trace.Recorder{"New": trace.New(), "zero": &zero, "new": new(trace.Recorder)} {
		if r == nil {
			t.Fatalf("%s is nil", what)
		}
		mustHold(t, what, r, nil)
		if !trace.Same(r, nil) || !trace.Same(r, trace.New()) {
			t.Errorf("%s is not the same as one that has logged nothing", what)
		}
		for _, e := range fiveEvents() {
			ask(r, e)
		}
		mustHold(t, what+" behind five events", r, fiveEvents())
		if !trace.Same(r, five()) {
			t.Errorf("%s is not the same as another one that was asked alike", what)
		}
	}
	if trace.New() == trace.New() {
		t.Error("New answers one Recorder twice")
	}
}

func TestAnswersAndEvents(t *testing.T) { // P2.2
	r := trace.New()
	var want []api.Event
	mustLog := func(what string, e api.Event) {
		t.Helper()
		want = append(want, e)
		mustHold(t, what, r, want)
	}
	for _, is := range []bool{true, false, false, true, true} {
		if r.If(is) != is {
			t.Errorf("If(%t) answers something else", is)
		}
		value := 0
		if is {
			value = 1
		}
		mustLog("If", api.Event{Kind: api.EventIf, Value: value})
	}
	for _, i := range []int{0, 1, 7, 7, -1, -2, 1 << 31, 1 << 40, -1 << 40, math.MaxInt, math.MinInt} {
		if got := r.At(i); got != i {
			t.Errorf("At(%d) answers %d", i, got)
		}
		mustLog("At", api.Event{Kind: api.EventAt, Value: i})
		r.Op(i)
		mustLog("Op", api.Event{Kind: api.EventOp, Value: i})
	}
}

func TestKindsAreApart(t *testing.T) { // P2.2
	r := trace.New()
	r.Op(1)
	r.At(1)
	r.If(true)
	mustBe(t, "three of one value", r.Events(), []api.Event{{Kind: 3, Value: 1}, {Kind: 2, Value: 1}, {Kind: 1, Value: 1}})
}

func TestNilRecorder(t *testing.T) { // P2.3
	var r *trace.Recorder
	early := r.Since(0)
	for _, is := range []bool{true, false} {
		if r.If(is) != is {
			t.Errorf("If(%t) answers something else", is)
		}
	}
	for _, i := range []int{0, 7, -2, math.MaxInt, math.MinInt} {
		if got := r.At(i); got != i {
			t.Errorf("At(%d) answers %d", i, got)
		}
		r.Op(i)
		mustBe(t, fmt.Sprintf("Since(%d)", i), slices.Collect(r.Since(i)), nil)
	}
	mustHold(t, "nil", r, nil)
	mustBe(t, "a Since from before", slices.Collect(early), nil)
}

func TestTotalAndEvents(t *testing.T) { // P2.4
	mustHold(t, "the example", five(), fiveEvents())
	for i, list := range lists() {
		r := trace.New()
		for n, e := range list {
			if r.Total() != n {
				t.Fatalf("list %d: Total is %d behind %d events", i, r.Total(), n)
			}
			ask(r, e)
		}
		mustHold(t, fmt.Sprintf("list %d", i), r, list)
	}
}

func TestTotalFromElsewhere(t *testing.T) { // P2.4 and Ways: the number may be asked while the log goes on
	const last = 20000
	r := trace.New()
	over, fault := make(chan bool), make(chan string)
	go func() {
		what := ""
		for seen := 0; ; {
			now := r.Total()
			if now < seen || now > last {
				what = fmt.Sprintf("Total is %d behind %d", now, seen)
			}
			seen = now
			select {
			case <-over:
				fault <- what
				return
			default:
			}
		}
	}()
	for i := range last {
		r.At(i)
	}
	close(over)
	if what := <-fault; what != "" || r.Total() != last {
		t.Error(what, r.Total())
	}
}

func TestRuns(t *testing.T) { // P2.5
	at := func(i, times int) api.Run {
		return api.Run{Event: api.Event{Kind: api.EventAt, Value: i}, Times: times}
	}
	op := func(kind, times int) api.Run {
		return api.Run{Event: api.Event{Kind: api.EventOp, Value: kind}, Times: times}
	}
	for i, want := range [][]api.Run{
		{},
		{at(1, 1)},
		{at(1, 500)},
		{at(1, 2), at(2, 1)},
		{at(1, 1), op(1, 1)}, // one value, two kinds
		{at(1, 1), at(2, 1), at(1, 1)},
		{at(0, 3), op(3, 1), at(0, 2)},
		{at(0, 1), at(-1, 2), at(0, 1), op(0, 4)},
	} {
		if got := recorderOf(written(want)).Runs(); !slices.Equal(got, want) {
			t.Errorf("rows %d: %v, not %v", i, got, want)
		}
	}
	want := []api.Run{{Event: api.Event{Kind: 1, Value: 1}, Times: 1}, at(7, 2), op(3, 1), {Event: api.Event{Kind: 1}, Times: 1}}
	if got := five().Runs(); !slices.Equal(got, want) {
		t.Errorf("the example: %v", got)
	}
	for i, list := range lists() {
		runs := recorderOf(list).Runs()
		for n, run := range runs {
			if run.Times < 1 || n > 0 && runs[n-1].Event == run.Event {
				t.Errorf("list %d: row %d is no row as long as it can be: %v", i, n, run)
			}
		}
	}
}

func TestRunsGrow(t *testing.T) { // P2.5: a row that was asked for grows on
	r := trace.New()
	for times := 1; times < 4; times++ {
		r.At(4)
		if got := r.Runs(); !slices.Equal(got, []api.Run{{Event: api.Event{Kind: 2, Value: 4}, Times: times}}) {
			t.Errorf("%d like events: %v", times, got)
		}
	}
}

func TestSince(t *testing.T) { // P2.6
	r, all := five(), fiveEvents()
	for _, x := range []struct{ n, first int }{
		{0, 0}, {1, 1}, {2, 2}, {3, 3}, {4, 4}, {5, 5},
		{-1, 0}, {-5, 0}, {-6, 0}, {math.MinInt, 0},
		{6, 5}, {1 << 32, 5}, {math.MaxInt, 5},
	} {
		mustBe(t, fmt.Sprintf("Since(%d)", x.n), slices.Collect(r.Since(x.n)), all[x.first:])
	}
	for _, n := range []int{math.MinInt, -1, 0, 1, math.MaxInt} {
		mustBe(t, fmt.Sprintf("Since(%d) of an empty one", n), slices.Collect(trace.New().Since(n)), nil)
	}
}

func TestSinceWhoseBodyLogs(t *testing.T) { // P2.6
	r := five()
	late := r.Since(4)
	var seen []api.Event
	for e := range late {
		seen = append(seen, e)
		r.At(1)
	}
	mustBe(t, "the loop whose body logs", seen, []api.Event{{Kind: 1}})
	mustBe(t, "the same Since again", slices.Collect(late), []api.Event{{Kind: 1}, {Kind: 2, Value: 1}})

	r = five()
	seen = nil
	for e := range r.Since(0) { // enough for the list to be laid anew more than once
		seen = append(seen, e)
		for i := range 1000 {
			r.Op(i)
		}
	}
	mustBe(t, "a loop whose body logs much", seen, fiveEvents())
	if r.Total() != 5005 {
		t.Errorf("Total is %d", r.Total())
	}
}

func TestSinceLater(t *testing.T) { // P2.6: what counts is when a loop begins, not when Since was asked
	r := trace.New()
	whole, third := r.Since(-3), r.Since(2)
	mustBe(t, "nothing logged", slices.Collect(whole), nil)
	var logged []api.Event
	for _, e := range fiveEvents() {
		ask(r, e)
		logged = append(logged, e)
		mustBe(t, "whole", slices.Collect(whole), logged)
		mustBe(t, "from the third on", slices.Collect(third), logged[min(2, len(logged)):])
	}
}

func TestSinceInSince(t *testing.T) { // P2.6
	r, all := five(), fiveEvents()
	s := r.Since(2)
	outer := 0
	for e := range s {
		if e != all[2+outer] {
			t.Errorf("outer loop, event %d: %v", outer, e)
		}
		mustBe(t, "inner loop", slices.Collect(s), r.Events()[2:])
		for range s {
			break
		}
		r.Op(9) // the next inner loop begins later, and sees it
		outer++
	}
	if outer != 3 {
		t.Errorf("the outer loop ends behind %d", outer)
	}
}

func TestSinceSideBySide(t *testing.T) { // P2.6
	r := five()
	s := r.Since(1)
	next, stop := iter.Pull(s)
	defer stop()
	other, end := iter.Pull(s)
	defer end()
	for n, want := range fiveEvents()[1:] {
		a, okA := next()
		b, okB := other()
		if a != want || b != want || !okA || !okB {
			t.Errorf("step %d: %v, %v", n, a, b)
		}
	}
	if _, ok := next(); ok {
		t.Error("it does not end")
	}
}

func TestSinceStops(t *testing.T) { // P2.6
	r, all := five(), fiveEvents()
	s := r.Since(-1)
	for stop := 1; stop <= 5; stop++ {
		var seen []api.Event
		s(func(e api.Event) bool { // called by hand, as a loop would catch a call too many by a panic
			seen = append(seen, e)
			return len(seen) < stop
		})
		mustBe(t, fmt.Sprintf("told to stop at %d", stop), seen, all[:stop])
	}
	mustBe(t, "behind that, whole", slices.Collect(s), all)
}

func TestSame(t *testing.T) { // P2.7
	mustSame := func(what string, a, b *trace.Recorder, want bool) {
		t.Helper()
		if trace.Same(a, b) != want || trace.Same(b, a) != want {
			t.Errorf("%s: not %t", what, want)
		}
	}
	mustSame("nil and nil", nil, nil, true)
	mustSame("an empty one and nil", trace.New(), nil, true)
	mustSame("two empty ones", trace.New(), trace.New(), true)
	mustSame("the example and nil", five(), nil, false)
	mustSame("the example and an empty one", five(), trace.New(), false)
	mustSame("the example twice", five(), five(), true)
	r := five()
	mustSame("one and itself", r, r, true)
	for i := range fiveEvents() {
		for _, other := range []api.Event{{Kind: 2, Value: 8}, {Kind: 3, Value: 7}, {Kind: 2, Value: -7}} {
			list := fiveEvents()
			list[i] = other
			mustSame(fmt.Sprintf("event %d is %v", i, other), r, recorderOf(list), false)
		}
		mustSame(fmt.Sprintf("%d events alone", i), r, recorderOf(fiveEvents()[:i]), false)
	}
	list := fiveEvents()
	mustSame("an event more", r, recorderOf(append(list, list[4])), false)
	list = fiveEvents()
	slices.Reverse(list)
	mustSame("another order", r, recorderOf(list), false)
	mustSame("one kind apart", recorderOf([]api.Event{{Kind: 2, Value: 1}}), recorderOf([]api.Event{{Kind: 3, Value: 1}}), false)
	list = lists()[10]
	mustSame("a long one twice", recorderOf(list), recorderOf(list), true)
}

func TestQuestionsLogNothing(t *testing.T) { // P2.8
	var none *trace.Recorder
	for _, want := range lists() {
		r, other := recorderOf(want), five()
		for range 3 {
			r.Total()
			r.Events()
			r.Runs()
			for range r.Since(0) {
				r.Total()
			}
			for range r.Since(1) {
				break
			}
			trace.Same(r, r)
			trace.Same(r, other)
			trace.Same(other, r)
			trace.Same(none, r)
			mustHold(t, "behind questions", r, want)
			mustHold(t, "the other one behind questions", other, fiveEvents())
		}
	}
}

func TestWhatFollows(t *testing.T) { // P2.9
	for i, list := range lists() {
		r := recorderOf(list)
		events, runs := r.Events(), r.Runs()
		mustBe(t, fmt.Sprintf("list %d: Runs written out", i), written(runs), events)
		mustBe(t, fmt.Sprintf("list %d: Since(0)", i), slices.Collect(r.Since(0)), events)
		for n := 0; n <= r.Total(); n += 1 + n/20 {
			mustBe(t, fmt.Sprintf("list %d: Since(%d)", i, n), slices.Collect(r.Since(n)), events[n:])
		}
		sum := 0
		for _, run := range runs {
			sum += run.Times
		}
		if r.Total() != len(events) || r.Total() != sum {
			t.Errorf("list %d: Total %d, %d events, Times %d in all", i, r.Total(), len(events), sum)
		}
		for j, list := range lists() {
			other := recorderOf(list)
			if same := trace.Same(r, other); same != (i == j) || same != slices.Equal(runs, other.Runs()) {
				t.Errorf("lists %d and %d: Same is %t", i, j, same)
			}
		}
	}
}

func TestRecordersInTurns(t *testing.T) { // P2.10
	a, b := trace.New(), trace.New()
	var wantA, wantB []api.Event
	for i := range 100 {
		a.At(i)
		b.At(-i)
		b.Op(i)
		wantA = append(wantA, api.Event{Kind: api.EventAt, Value: i})
		wantB = append(wantB, api.Event{Kind: api.EventAt, Value: -i}, api.Event{Kind: api.EventOp, Value: i})
		mustHold(t, "the one", a, wantA)
		mustHold(t, "the other", b, wantB)
	}
}

func TestAnswersAreNewMemory(t *testing.T) { // P2.10
	for _, want := range lists() {
		r := recorderOf(want)
		events, more, runs, rows := r.Events(), r.Events(), r.Runs(), r.Runs()
		wantRuns := slices.Clone(runs)
		other := api.Event{Kind: 9, Value: 9}
		fill(events, other)
		fill(runs, api.Run{Event: other, Times: 9})
		mustBe(t, "another answer", more, want)
		if !slices.Equal(rows, wantRuns) {
			t.Errorf("another answer of Runs has changed: %v", rows)
		}
		mustHold(t, "behind the writing", r, want)
		r.Op(77) // what is logged later goes into none of the answers, nor the other way
		fill(more, other)
		mustHold(t, "one event more", r, append(slices.Clone(want), api.Event{Kind: api.EventOp, Value: 77}))
		for _, e := range events[:cap(events)] {
			if e != other {
				t.Errorf("an answer has changed: %v", e)
			}
		}
	}
}

// fill writes over a list, its spare room too.
func fill[E any](list []E, other E) {
	list = list[:cap(list)]
	for i := range list {
		list[i] = other
	}
}
