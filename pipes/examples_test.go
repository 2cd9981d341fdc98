package pipes_test

import (
	"testing"

	"pintle/api"
	"pintle/pipes"
	"pintle/suite"
)

// examplePair are a, an opener, with a key or without one, and b, an answerer.
func examplePair(t *testing.T, engine suite.Suite, remote api.Key, has bool) (a, b *pipes.Pipe) {
	t.Helper()
	a, err := pipes.New(engine, api.PipeSetup{Opener: true, Static: api.Key{1}, Remote: remote, HasRemote: has, Draws: []api.Key{{3}}})
	b, err2 := pipes.New(engine, api.PipeSetup{Static: api.Key{2}, Draws: []api.Key{{4}}})
	if err != nil || err2 != nil {
		t.Fatal(err, err2)
	}
	return a, b
}

// answers asks for an answer's length and error and, of a message, for its kind.
func answers(t *testing.T, what string, kind byte, n int, want error) func(list []byte, err error) []byte {
	t.Helper()
	return func(list []byte, err error) []byte {
		t.Helper()
		if len(list) != n || err != want || kind != 0 && list[0] != kind {
			t.Fatalf("%s: %d bytes %.4x, %v, not %d of the kind %d, %v", what, len(list), list, err, n, kind, want)
		}
		return list
	}
}

// reads asks for a payload.
func reads(t *testing.T, what string, payload string) func(list []byte, err error) {
	t.Helper()
	return func(list []byte, err error) {
		t.Helper()
		if string(list) != payload || err != nil {
			t.Fatalf("%s: %q, %v, not %q", what, list, err, payload)
		}
	}
}

func mustGo(t *testing.T, road int, over bool, all ...*pipes.Pipe) {
	t.Helper()
	for _, p := range all {
		if x := p.Sight(); x.Road != road || x.Sight.Over != over {
			t.Fatalf("%+v", x)
		}
	}
}

// The examples of the chapter, from the first row on.
func TestExamples(t *testing.T) {
	for _, engine := range engines() {
		a, b := examplePair(t, engine, publicOf(api.Key{2}), true)
		m := answers(t, "a.Write", 4, 99, nil)(a.Write([]byte("hi")))
		mustGo(t, 2, false, a)
		reads(t, "b.Read", "hi")(b.Read(m))
		mustGo(t, 2, false, b)
		n := answers(t, "b.Write", 5, 49, nil)(b.Write(nil))
		reads(t, "a.Read", "")(a.Read(n))
		mustGo(t, 2, true, a, b)

		a, _ = examplePair(t, engine, api.Key{}, false)
		answers(t, "a.Write without a key", 1, 35, nil)(a.Write([]byte("hi")))

		a, b = examplePair(t, engine, publicOf(api.Key{77}), true)
		m = answers(t, "a.Write with another key", 4, 99, nil)(a.Write([]byte("hi")))
		reads(t, "b.Read of that", "")(b.Read(m))
		mustGo(t, 3, false, b)
		n = answers(t, "b.Write", 6, 99, nil)(b.Write([]byte("no")))
		reads(t, "a.Read", "no")(a.Read(n))
		mustGo(t, 3, false, a)
		o := answers(t, "a.Write", 7, 67, nil)(a.Write([]byte("hi")))
		reads(t, "b.Read", "hi")(b.Read(o))
		mustGo(t, 3, true, a, b)

		_, b = examplePair(t, engine, api.Key{}, false)
		answers(t, "b.Write ahead of all", 0, 0, api.ErrTurn)(b.Write(nil))
		answers(t, "b.Read of nothing", 0, 0, api.ErrKind)(b.Read(nil))
		answers(t, "b.Read of 2 and 40 bytes", 0, 0, api.ErrKind)(b.Read(messageOf(2, 41)))
		reads(t, "b.Read as ever", "")(b.Read(m))
		mustGo(t, 3, false, b)

		_, b = examplePair(t, engine, api.Key{}, false)
		answers(t, "b.Read of 4 and 31 bytes", 0, 0, api.ErrShort)(b.Read(messageOf(4, 32)))
		if !b.Sight().Sight.Dead {
			t.Fatalf("%+v", b.Sight())
		}
	}
}
