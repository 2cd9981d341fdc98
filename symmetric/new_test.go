package symmetric_test

import (
	"encoding/hex"
	"slices"
	"testing"

	"pintle/api"
	"pintle/suite"
	"pintle/symmetric"
	"pintle/trace"
)

// P14.1: a name of up to 32 bytes is filled up with noughts, a longer one is digested; the chaining key is the hash, and there is no key.
func TestNew(t *testing.T) {
	for _, s := range engines() {
		for n := range 140 {
			name := drawn(uint64(n), n)
			y, m := pair(s, name)
			if y == nil {
				t.Fatal("New is nil")
			}
			want := suite.Plain().Hash(name)
			if n <= 32 {
				want = api.Key(append(slices.Clone(name), make([]byte, 32-n)...))
			}
			if got := y.Hash(); got != want || y.Has() {
				t.Fatalf("a name of %d bytes: %x, %v, not %x", n, got, y.Has(), want)
			}
			mustHold(t, "New", y, m)
		}
		for _, n := range []int{1000, 1 << 16} {
			y, m := pair(s, drawn(7, n))
			mustHold(t, "New of a long name", y, m)
		}
	}
}

// P14.1: names that are noughts, and no name, nil or empty.
func TestNewOfNoughts(t *testing.T) {
	for _, s := range engines() {
		for _, name := range [][]byte{nil, {}, make([]byte, 1), make([]byte, 32)} {
			y, m := pair(s, name)
			if y.Hash() != (api.Key{}) {
				t.Errorf("%d noughts: %x", len(name), y.Hash())
			}
			mustHold(t, "noughts", y, m)
		}
		if got := symmetric.New(s, make([]byte, 33)).Hash(); got != suite.Plain().Hash(make([]byte, 33)) {
			t.Errorf("33 noughts: %x", got)
		}
	}
}

// P14.1, P14.2: the examples of the document.
func TestExamplesOfHash(t *testing.T) {
	for _, s := range engines() {
		if got := symmetric.New(s, []byte("keel")).Hash(); got != (api.Key{'k', 'e', 'e', 'l'}) {
			t.Errorf("keel: %x", got)
		}
		long := symmetric.New(s, slices.Repeat([]byte("a"), 33)).Hash()
		if got := hex.EncodeToString(long[:]); got != "c5630f4020a6e105956135e800dcfc55d954cbb3da8cf20c8044f2c7c6ac00a7" {
			t.Errorf("33 bytes: %s", got)
		}
		y := symmetric.New(s, []byte("keel"))
		y.MixHash([]byte("mast"))
		hash := y.Hash()
		if got := hex.EncodeToString(hash[:]); got != "f2b7f60e90eb0dc37fa86419ee2c2c16314961aa8e1dd872ae1c350af8c12ce7" {
			t.Errorf("keel, mast: %s", got)
		}
	}
}

// P14.10: names that differ in noughts at the end alone, none of them longer than 32, are one name, whatever comes behind.
func TestNoughtsAtTheEnd(t *testing.T) {
	for _, s := range engines() {
		for n := range 33 {
			name := drawn(3, n)
			_, m := keyedWith(s, name)
			for longer := n; longer <= 32; longer++ {
				y, _ := keyedWith(s, append(slices.Clone(name), make([]byte, longer-n)...))
				one := *m
				mustHold(t, "noughts at the end", y, &one)
			}
		}
	}
}

// keyedWith is a State of that name behind all the calls that mix.
func keyedWith(s suite.Suite, name []byte) (*symmetric.State, *model) {
	y, m := pair(s, name)
	y.MixHash([]byte("mast"))
	m.mixHash([]byte("mast"))
	y.MixKey([]byte("sail"))
	m.mixKey([]byte("sail"))
	y.MixKeyAndHash([]byte("oar"))
	m.mixKeyAndHash([]byte("oar"))
	return y, m
}

// P14.10: a nought that makes a name longer than 32 makes another name of it, which is digested as it is.
func TestNoughtsBeyondTheEnd(t *testing.T) {
	for _, s := range engines() {
		for _, n := range []int{0, 4, 31, 32} {
			name := drawn(4, n)
			for _, longer := range []int{33, 34, 64, 65} {
				long := append(slices.Clone(name), make([]byte, longer-n)...)
				y, m := pair(s, long)
				if got := y.Hash(); got != suite.Plain().Hash(long) || got == symmetric.New(s, name).Hash() {
					t.Fatalf("%d bytes and noughts up to %d: %x", n, longer, got)
				}
				mustHold(t, "a longer name", y, m)
			}
		}
	}
}

// Chapter 14: a zero State is what New of the zero Suite and no name is; each call may be the first.
func TestZeroState(t *testing.T) {
	first := map[string]func(y *symmetric.State, m *model){
		"nothing":       func(y *symmetric.State, m *model) {},
		"MixKey":        func(y *symmetric.State, m *model) { y.MixKey([]byte("sail")); m.mixKey([]byte("sail")) },
		"MixHash":       func(y *symmetric.State, m *model) { y.MixHash([]byte("mast")); m.mixHash([]byte("mast")) },
		"MixKeyAndHash": func(y *symmetric.State, m *model) { y.MixKeyAndHash([]byte("oar")); m.mixKeyAndHash([]byte("oar")) },
		"Seal": func(y *symmetric.State, m *model) {
			n, err := y.Seal([]byte("abc"), 3)
			mustAnswer(t, "Seal", n, err, 3, nil)
			m.seal([]byte("abc"), 3)
		},
		"Open": func(y *symmetric.State, m *model) {
			n, err := y.Open([]byte("abc"), 3)
			mustAnswer(t, "Open", n, err, 3, nil)
			m.open([]byte("abc"), 3)
		},
		"refused": func(y *symmetric.State, m *model) {
			n, err := y.Seal([]byte("abc"), 4)
			mustAnswer(t, "Seal", n, err, 0, api.ErrArg)
			n, err = y.Open([]byte("abc"), 4)
			mustAnswer(t, "Open", n, err, 0, api.ErrArg)
		},
		"Split": func(y *symmetric.State, m *model) { mustSplit(t, "Split", y, m) },
	}
	for what, call := range first {
		y, m := &symmetric.State{}, begun(suite.Plain(), nil)
		call(y, m)
		mustHold(t, "a zero State, first "+what, y, m)
		y.MixKey([]byte("more"))
		m.mixKey([]byte("more"))
		mustHold(t, "a zero State with a key, first "+what, y, m)
	}
	if zero := (&symmetric.State{}); zero.Has() || zero.Hash() != (api.Key{}) {
		t.Errorf("%v, %x", zero.Has(), zero.Hash())
	}
}

// W8: to a nil State nothing happens; what answers an error answers ErrArg, all else its zero value.
func TestNilState(t *testing.T) {
	var y *symmetric.State
	for range 2 {
		for _, size := range sizes() {
			for _, n := range append(wrong(size), 0, size) {
				buf := drawn(1, size)
				m, err := y.Seal(buf, n)
				mustAnswer(t, "Seal", m, err, 0, api.ErrArg)
				m, err = y.Open(buf, n)
				mustAnswer(t, "Open", m, err, 0, api.ErrArg)
				mustBe(t, "the buffer", buf, drawn(1, size))
			}
		}
		y.MixKey([]byte("sail"))
		y.MixHash([]byte("mast"))
		y.MixKeyAndHash([]byte("oar"))
		if a, b := y.Split(); a != nil || b != nil || y.Has() || y.Hash() != (api.Key{}) {
			t.Errorf("%v, %v, %v, %x", a, b, y.Has(), y.Hash())
		}
	}
}

// S2: New asks for one digest of a name that is longer than 32, of one piece, and for nothing else.
func TestNewCalls(t *testing.T) {
	for n := range 140 {
		r, want := trace.New(), trace.New()
		symmetric.New(suite.Fast(r), drawn(1, n))
		if n > 32 {
			suite.Fast(want).Hash(drawn(1, n))
		}
		mustLog(t, "New", r, want)
		if (n > 32) != (r.Total() > 0) {
			t.Fatalf("a name of %d bytes: %v", n, r.Runs())
		}
	}
}
