package suite_test

import (
	"testing"

	"pintle/api"
	"pintle/suite"
	"pintle/trace"
)

// begun is a Recorder that has logged something already.
func begun() *trace.Recorder {
	r := trace.New()
	r.If(true)
	r.At(-7)
	r.Op(api.OpPress)
	return r
}

func mustSame(t *testing.T, what string, got, want *trace.Recorder) {
	t.Helper()
	if !trace.Same(got, want) {
		t.Fatalf("%s: %d events are logged, not the %d that are asked for", what, got.Total(), want.Total())
	}
}

// P10.1: each method is that call, its answer and what it logs, behind what was logged ahead.
func TestFast(t *testing.T) {
	for _, q := range questions() {
		r, want := begun(), begun()
		mustAnswer(t, "Fast(r)", q, q.of(suite.Fast(r)), q.fast(want))
		mustSame(t, q.what, r, want)
		if r.Total() <= begun().Total() {
			t.Fatalf("%s has logged nothing", q.what)
		}
	}
}

// P10.1: the same from Of, and with a zero Recorder.
func TestFastOf(t *testing.T) {
	for _, q := range few() {
		var r, want trace.Recorder
		mustAnswer(t, "Of(Fast, r)", q, q.of(mustOf(t, api.Fast, &r)), q.fast(&want))
		mustSame(t, q.what, &r, &want)
	}
}

// P10.1: nil logs nothing, and makes no difference to an answer.
func TestFastWithoutRecorder(t *testing.T) {
	for _, q := range questions() {
		want := q.fast(nil)
		mustAnswer(t, "Fast(nil)", q, q.of(suite.Fast(nil)), want)
	}
	r := begun()
	suite.Fast(r)
	for _, q := range few() {
		q.of(suite.Fast(nil))
		q.of(mustOf(t, api.Fast, nil))
	}
	mustSame(t, "what nil was handed in for", r, begun())
}

// P10.1: to make an engine logs nothing.
func TestFastIsMade(t *testing.T) {
	r := begun()
	suite.Fast(r)
	mustOf(t, api.Fast, r)
	mustSame(t, "Fast(r)", r, begun())
}

// P10.1: one Suite logs its calls one behind the other, and what others log in its Recorder stands between.
func TestFastInARow(t *testing.T) {
	r, want := trace.New(), trace.New()
	s := suite.Fast(r)
	for range 2 {
		for i, q := range few() {
			mustAnswer(t, "Fast(r)", q, q.of(s), q.fast(want))
			r.At(i)
			want.At(i)
		}
	}
	mustSame(t, "all in a row", r, want)
}

// P10.1: two Recorders have nothing in common, whichever Suite came first.
func TestTwoRecorders(t *testing.T) {
	r, other := trace.New(), begun()
	s, beside := suite.Fast(r), suite.Fast(other)
	wantR, wantOther := trace.New(), begun()
	for i, q := range few() {
		q.of(s)
		q.fast(wantR)
		mustSame(t, "the first one", r, wantR)
		mustSame(t, "the other one", other, wantOther)
		for range i % 3 {
			q.of(beside)
			q.fast(wantOther)
		}
		mustSame(t, "the first one", r, wantR)
		mustSame(t, "the other one", other, wantOther)
	}
}

// P10.1: a copy of a Suite, and a second Suite of the same Recorder, log in that Recorder.
func TestCopyLogsInTheSame(t *testing.T) {
	r, want := trace.New(), trace.New()
	s := suite.Fast(r)
	held := []suite.Suite{s, s, suite.Fast(r)}
	for i, q := range few() {
		mustAnswer(t, "a copy", q, q.of(held[i%3]), q.fast(want))
		mustAnswer(t, "the Suite itself", q, q.of(s), q.fast(want))
		mustSame(t, "behind a copy's call", r, want)
	}
	q := askPublic(exampleKey())
	s = suite.Plain() // the variable is another Suite now: its copies are not
	q.of(s)
	q.of(held[0])
	q.fast(want)
	mustSame(t, "a copy of what was there", r, want)
}

// P10.1: whether Check holds is the last event that it logs.
func TestFastCheckTells(t *testing.T) {
	key, piece := exampleKey(), drawn(4, 33)
	for _, right := range []bool{true, false} {
		r := trace.New()
		tag := suite.Fast(nil).Tag(key, piece)
		value := 1
		if !right {
			tag[15] ^= 0x80
			value = 0
		}
		if suite.Fast(r).Check(key, tag, piece) != right {
			t.Errorf("Check is not %t", right)
		}
		events := r.Events()
		if last := events[len(events)-1]; last != (api.Event{Kind: api.EventIf, Value: value}) {
			t.Errorf("Check that is %t ends with %v", right, last)
		}
	}
}
