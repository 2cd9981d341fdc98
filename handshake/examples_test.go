package handshake_test

import (
	"bytes"
	"testing"

	"pintle/api"
	"pintle/handshake"
	"pintle/suite"
)

// example is one of the two sides of the chapter's examples.
func example(t *testing.T, initiator bool, draws ...api.Key) *handshake.State {
	t.Helper()
	u := api.Setup{Name: "Noise_NN_25519_ChaChaPoly_BLAKE2s", Initiator: initiator, Draws: draws}
	h, err := handshake.New(suite.Plain(), modified(t, "NN"), u)
	if err != nil {
		t.Fatal(err)
	}
	return h
}

// P18.1: the examples of New.
func TestExamplesOfNew(t *testing.T) {
	s := suite.Plain()
	for i, x := range []struct {
		p    api.Pattern
		u    api.Setup
		want error
	}{
		{api.Pattern{}, api.Setup{}, api.ErrInvalid},
		{modified(t, "NK"), api.Setup{Initiator: true}, api.ErrKey},
		{modified(t, "NN", "psk0"), api.Setup{Psks: make([]api.Key, 2)}, api.ErrKey},
	} {
		if h, err := handshake.New(s, x.p, x.u); h != nil || err != x.want {
			t.Errorf("row %d: %v", i, err)
		}
	}
}

// P18.2 to P18.7: the examples, row by row.
func TestExamples(t *testing.T) {
	d, x := api.Key{1, 2, 3}, api.Key{4, 5, 6}
	publicD, publicE := suite.Plain().Public(d), suite.Plain().Public(x)
	i, r := example(t, true, d), example(t, false, x)
	if m, err := r.Write(nil); len(m) != 0 || err != api.ErrTurn {
		t.Error(err)
	}
	for n, want := range map[int]int{0: 32, 65503: 65535} {
		if got, err := i.Size(n); got != want || err != nil {
			t.Errorf("Size(%d): %d, %v", n, got, err)
		}
	}
	for n, want := range map[int]error{65504: api.ErrLong, -1: api.ErrArg} {
		if got, err := i.Size(n); got != 0 || err != want {
			t.Errorf("Size(%d): %d, %v", n, got, err)
		}
	}
	m, err := i.Write([]byte("hail"))
	if err != nil || !bytes.Equal(m, append(publicD[:], "hail"...)) || len(m) != 36 {
		t.Fatalf("%x, %v", m, err)
	}
	if _, err := i.Write(nil); err != api.ErrTurn || i.Turn() != api.Responder || i.Over() {
		t.Error(err, i.Turn(), i.Over())
	}
	if _, err := r.Read(make([]byte, 65536)); err != api.ErrLong || r.Dead() {
		t.Error(err)
	}
	short := example(t, false, x)
	if _, err := short.Read(make([]byte, 31)); err != api.ErrShort || !short.Dead() {
		t.Error(err)
	}
	payload, err := r.Read(m)
	size, err2 := r.Size(0)
	if string(payload) != "hail" || err != nil || size != 48 || err2 != nil || r.Turn() != api.Responder {
		t.Errorf("%q, %v, %d, %v, %d", payload, err, size, err2, r.Turn())
	}
	hash := i.Hash()
	n, err := r.Write(nil)
	if err != nil || len(n) != 48 {
		t.Fatal(err)
	}
	turned := bytes.Clone(n)
	turned[47] ^= 1
	other := example(t, true, d)
	other.Write([]byte("hail"))
	_, err = other.Read(turned)
	if met, is := other.Met(); err != api.ErrAuth || !other.Dead() || other.Hash() != hash || met != publicE || !is {
		t.Errorf("%v, %x, %v", err, met, is)
	}
	if payload, err := i.Read(n); len(payload) != 0 || err != nil || !i.Over() || !r.Over() || i.Hash() != r.Hash() {
		t.Errorf("%q, %v", payload, err)
	}
	if _, err := i.Write(nil); err != api.ErrOver {
		t.Error(err)
	}
	out, _, err := i.Split()
	_, in, err2 := r.Split()
	if err != nil || err2 != nil {
		t.Fatal(err, err2)
	}
	mustMatch(t, out, in)
	bare := example(t, false)
	if _, err := bare.Read(m); err != nil {
		t.Fatal(err)
	}
	for range 2 {
		if _, err := bare.Write(nil); err != api.ErrDraw {
			t.Error(err)
		}
	}
}
