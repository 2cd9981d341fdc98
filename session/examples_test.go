package session_test

import (
	"testing"

	"pintle/api"
	"pintle/session"
	"pintle/suite"
)

// examplePair are a, the initiator, and b, the responder, each with one draw.
func examplePair(t *testing.T, engine suite.Suite) (a, b *session.Session) {
	t.Helper()
	a, err := session.New(engine, api.Setup{Name: nameOf("NN"), Initiator: true, Draws: []api.Key{{1}}})
	b, err2 := session.New(engine, api.Setup{Name: nameOf("NN"), Draws: []api.Key{{2}}})
	if err != nil || err2 != nil {
		t.Fatal(err, err2)
	}
	return a, b
}

// answers asks for the length of an answer and for its error.
func answers(t *testing.T, what string, n int, want error) func(list []byte, err error) []byte {
	t.Helper()
	return func(list []byte, err error) []byte {
		t.Helper()
		if len(list) != n || err != want {
			t.Fatalf("%s: %d bytes, %v, not %d, %v", what, len(list), err, n, want)
		}
		return list
	}
}

// The examples of the chapter, from the first row on.
func TestExamples(t *testing.T) {
	for _, engine := range engines() {
		for name, want := range map[string]error{"NN": api.ErrName, nameOf("KK"): api.ErrKey} {
			if s, err := session.New(engine, api.Setup{Name: name}); s != nil || err != want {
				t.Fatalf("New of %q: %v", name, err)
			}
		}
		a, b := examplePair(t, engine)
		answers(t, "b.Write", 0, api.ErrTurn)(b.Write(nil))
		answers(t, "a.Read", 0, api.ErrTurn)(a.Read(nil))
		if err, err2 := a.Rekey(api.Out), a.Rekey(3); err != api.ErrOver || err2 != api.ErrArg {
			t.Fatal(err, err2)
		}
		m := answers(t, "a.Write", 34, nil)(a.Write([]byte("hi")))
		answers(t, "a.Write again", 0, api.ErrTurn)(a.Write([]byte("hi")))
		if got := answers(t, "b.Read", 2, nil)(b.Read(m)); string(got) != "hi" {
			t.Fatalf("%q", got)
		}
		n := answers(t, "b.Write", 48, nil)(b.Write(nil))
		if x := b.Sight(); !x.Over || x.Out != 0 || x.In != 0 {
			t.Fatalf("%+v", x)
		}
		answers(t, "a.Read", 0, nil)(a.Read(n))
		answers(t, "a.Write of 65520 bytes", 0, api.ErrLong)(a.Write(make([]byte, 65520)))
		answers(t, "a.Write of 65519 bytes", 65535, nil)(a.Write(make([]byte, 65519)))
		if x := a.Sight(); x.Out != 1 {
			t.Fatalf("%+v", x)
		}
		exampleNumbers(t, a, b)
		_, b = examplePair(t, engine)
		answers(t, "another b, 31 bytes", 0, api.ErrShort)(b.Read(make([]byte, 31)))
		answers(t, "then the right message", 0, api.ErrDead)(b.Read(m))
		answers(t, "then Write", 0, api.ErrDead)(b.Write(nil))
	}
}

func exampleNumbers(t *testing.T, a, b *session.Session) {
	t.Helper()
	if err := a.SetNonce(api.Out, api.LastNonce); err != nil {
		t.Fatal(err)
	}
	answers(t, "a.Write at the last number", 0, api.ErrNonce)(a.Write(nil))
	if err := a.SetNonce(api.Out, 1); err != nil {
		t.Fatal(err)
	}
	m := answers(t, "a.Write", 16, nil)(a.Write(nil))
	answers(t, "b.Read under the number 0", 0, api.ErrAuth)(b.Read(m))
	if err := b.SetNonce(api.In, 1); err != nil {
		t.Fatal(err)
	}
	answers(t, "b.Read under the number 1", 0, nil)(b.Read(m))
	answers(t, "b.Read of 15 bytes", 0, api.ErrShort)(b.Read(make([]byte, 15)))
}
