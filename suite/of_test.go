package suite_test

import (
	"math"
	"reflect"
	"testing"

	"pintle/api"
	"pintle/suite"
	"pintle/trace"
)

// P10.3: both engines, with a Recorder and with nil.
func TestOf(t *testing.T) {
	for _, r := range []*trace.Recorder{nil, trace.New(), begun()} {
		for _, engine := range []int{api.Fast, api.Plain} {
			if s := mustOf(t, engine, r); s.Engine() != engine {
				t.Errorf("Of(%d) is the engine %d", engine, s.Engine())
			}
		}
	}
	for _, q := range few() {
		want := trace.New()
		answer := q.fast(want)
		fast, plain := trace.New(), trace.New()
		mustAnswer(t, "Of(Fast, r)", q, q.of(mustOf(t, api.Fast, fast)), answer)
		mustSame(t, "Of(Fast, r)", fast, want)
		mustAnswer(t, "Of(Plain, r)", q, q.of(mustOf(t, api.Plain, plain)), q.plain())
		mustSame(t, "Of(Plain, r)", plain, nil)
		mustAnswer(t, "Of(Fast, nil)", q, q.of(mustOf(t, api.Fast, nil)), answer)
		mustAnswer(t, "Of(Plain, nil)", q, q.of(mustOf(t, api.Plain, nil)), answer)
	}
}

// P10.3: every other number is refused, such as come to 1 or 2 in fewer digits too; the other result is the zero Suite, which is used like any.
func TestOfRefuses(t *testing.T) {
	numbers := []int{math.MinInt, math.MinInt + 1, math.MinInt + 2, math.MinInt32, -3, -2, -1, 0, 3, 4, 5, 11, 12, 255, 256, 257, 258, 1<<16 + 1, 1<<16 + 2, 1<<32 + 1, 1<<32 + 2, 1<<62 + 1, math.MaxInt32, math.MaxInt - 1, math.MaxInt}
	for _, engine := range numbers {
		for _, r := range []*trace.Recorder{nil, begun()} {
			s, err := suite.Of(engine, r)
			if err != api.ErrArg {
				t.Errorf("Of(%d): %v", engine, err)
			}
			if !reflect.ValueOf(s).IsZero() || s.Engine() != api.Plain {
				t.Errorf("Of(%d) is refused, and is not the zero Suite", engine)
			}
			s.Hash([]byte("keel"))
			s.Check(exampleKey(), api.Tag{}, []byte("keel"))
			if r != nil && !trace.Same(r, begun()) {
				t.Errorf("Of(%d) is refused, and something is logged", engine)
			}
		}
	}
}
