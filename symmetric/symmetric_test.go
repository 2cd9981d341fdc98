package symmetric_test

import (
	"bytes"
	"math"
	"slices"
	"testing"

	"pintle/aead"
	"pintle/api"
	"pintle/cipher"
	"pintle/suite"
	"pintle/symmetric"
	"pintle/trace"
)

// drawn is bytes by a fixed rule, so that every run sees the same ones; each seed has its own.
func drawn(seed uint64, n int) []byte {
	list := make([]byte, n)
	x := seed
	for i := range list {
		x = x*6364136223846793005 + 1442695040888963407
		list[i] = byte(x >> 56)
	}
	return list
}

// engines are all there are, with a Recorder and without.
func engines() []suite.Suite {
	return []suite.Suite{suite.Fast(trace.New()), suite.Fast(nil), suite.Plain(), {}}
}

// lengths are nothing, those about a tag's, a key's and a block's, and such as the fast stream turns in fours.
func lengths() []int { return []int{0, 1, 15, 16, 17, 31, 32, 33, 63, 64, 65, 255, 256, 257} }

// sizes are lengths of a buffer, those about one tag's and two tags' among them.
func sizes() []int { return []int{0, 1, 14, 15, 16, 17, 18, 19, 31, 32, 33, 40} }

// wrong are numbers of bytes that a buffer of that size does not have.
func wrong(size int) []int {
	return []int{math.MinInt, math.MinInt + 16, -1 << 32, -17, -16, -15, -1, size + 1, size + 2, size + 15, size + 16, 1 << 32, math.MaxInt - 16, math.MaxInt}
}

// pair is a State and what it is to be, both with nothing behind the name.
func pair(s suite.Suite, name []byte) (*symmetric.State, *model) {
	return symmetric.New(s, name), begun(suite.Plain(), name)
}

// keyedPair has a key, a hash and a chaining key that are unlike each other.
func keyedPair(s suite.Suite) (*symmetric.State, *model) {
	y, m := pair(s, []byte("keel"))
	y.MixHash([]byte("mast"))
	m.mixHash([]byte("mast"))
	y.MixKey([]byte("sail"))
	m.mixKey([]byte("sail"))
	return y, m
}

// setNumber goes on to a number that is out of reach by counting.
func setNumber(y *symmetric.State, m *model, n uint64) {
	y.SetNumber(n)
	m.number = n
}

func mustBe(t *testing.T, what string, got, want []byte) {
	t.Helper()
	if !bytes.Equal(got, want) {
		t.Fatalf("%s: %x, not %x", what, got, want)
	}
}

// mustAnswer holds what two calls have answered against each other.
func mustAnswer(t *testing.T, what string, n int, err error, wantN int, want error) {
	t.Helper()
	if n != wantN || err != want {
		t.Fatalf("%s: %d, %v, not %d, %v", what, n, err, wantN, want)
	}
}

// mustCipher asks for a cipher with that key and the number 0; it seals a message of its own.
func mustCipher(t *testing.T, what string, c *cipher.State, key api.Key) {
	t.Helper()
	if c == nil || !c.Has() || c.Nonce() != 0 {
		t.Fatalf("%s: no cipher with a key and the number 0", what)
	}
	got, want := append([]byte("probe"), make([]byte, 16)...), append([]byte("probe"), make([]byte, 16)...)
	n, err := c.Seal(nil, got, 5)
	mustAnswer(t, what, n, err, 21, nil)
	aead.Seal(suite.Plain(), key, 0, nil, want, 5)
	mustBe(t, what, got, want)
}

// mustSplit asks for the two ciphers of that chaining key.
func mustSplit(t *testing.T, what string, y *symmetric.State, m *model) {
	t.Helper()
	first, second := y.Split()
	a, b := m.split()
	mustCipher(t, what+": the first of Split", first, a)
	mustCipher(t, what+": the second of Split", second, b)
}

// mustHash asks for what can be seen without a message.
func mustHash(t *testing.T, what string, y *symmetric.State, m *model) {
	t.Helper()
	if got := y.Hash(); got != m.hash || y.Has() != m.has {
		t.Fatalf("%s: %x, %v, not %x, %v", what, got, y.Has(), m.hash, m.has)
	}
}

// mustHold asks for all that a State keeps: hash, chaining key, and the cipher's key and number, which show in a message alone; both go on by it.
func mustHold(t *testing.T, what string, y *symmetric.State, m *model) {
	t.Helper()
	mustHash(t, what, y, m)
	mustSplit(t, what, y, m)
	mustSeal(t, what+": a message more", y, m, drawn(99, 9))
}

// mustSeal seals a text at both, with room for the tag.
func mustSeal(t *testing.T, what string, y *symmetric.State, m *model, text []byte) []byte {
	t.Helper()
	got := append(slices.Clone(text), make([]byte, 16)...)
	want := slices.Clone(got)
	size, err := y.Seal(got, len(text))
	wantSize, wantErr := m.seal(want, len(text))
	mustAnswer(t, what, size, err, wantSize, wantErr)
	mustBe(t, what, got, want)
	mustHash(t, what, y, m)
	return got[:size]
}

// mustLog asks whether two traces are alike.
func mustLog(t *testing.T, what string, got, want *trace.Recorder) {
	t.Helper()
	if !trace.Same(got, want) {
		t.Fatalf("%s: %v, not %v", what, got.Runs(), want.Runs())
	}
}
