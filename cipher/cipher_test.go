package cipher_test

import (
	"bytes"
	"math"
	"slices"
	"testing"

	"pintle/aead"
	"pintle/api"
	"pintle/cipher"
	"pintle/suite"
	"pintle/trace"
)

// exampleKey is 00 01 .. 1f.
func exampleKey() (key api.Key) {
	for i := range key {
		key[i] = byte(i)
	}
	return key
}

// drawn is bytes by a fixed rule, so that every run sees the same ones; each seed has its own.
func drawn(seed uint64, n int) []byte {
	list := make([]byte, n)
	x := seed
	for i := range list {
		x = x*6364136223846793005 + 1442695040888963407
		list[i] = byte(x >> 56)
	}
	return list
}

// engines are all there are, with a Recorder and without.
func engines() []suite.Suite {
	return []suite.Suite{suite.Fast(trace.New()), suite.Fast(nil), suite.Plain(), {}}
}

// lengths are nothing, those about a tag's and a block's, and such as the fast stream turns in fours.
func lengths() []int { return []int{0, 1, 15, 16, 17, 32, 63, 64, 65, 255, 256, 257} }

// numbers are those at both ends, those that take more bytes to write, and the one that no message has.
func numbers() []uint64 {
	return []uint64{0, 1, 2, 255, 256, math.MaxInt32, math.MaxUint32, math.MaxUint32 + 1, math.MaxInt64, math.MaxInt64 + 1, api.LastNonce - 2, api.LastNonce - 1, api.LastNonce}
}

// used are the numbers that a message can have.
func used() []uint64 {
	return slices.DeleteFunc(numbers(), func(n uint64) bool { return n == api.LastNonce })
}

// keys are drawn ones and those at both ends: any 32 bytes are one, zeros too.
func keys() []api.Key {
	return []api.Key{{}, api.Key(bytes.Repeat([]byte{0xff}, 32)), exampleKey(), api.Key(drawn(300, 32))}
}

// keyed is a State with that key, at that number.
func keyed(s suite.Suite, key api.Key, number uint64) *cipher.State {
	c := cipher.New(s)
	c.Key(key)
	c.SetNonce(number)
	return c
}

// sealed is a text as chapter 11's Seal makes it, with its tag.
func sealed(t *testing.T, key api.Key, number uint64, ad, text []byte) []byte {
	t.Helper()
	buf := append(slices.Clone(text), make([]byte, 16)...)
	if _, err := aead.Seal(suite.Plain(), key, number, ad, buf, len(text)); err != nil {
		t.Fatalf("aead.Seal: %v", err)
	}
	return buf
}

// rekeyed is the key behind a Rekey, by the words of its promise.
func rekeyed(t *testing.T, key api.Key) api.Key {
	t.Helper()
	return api.Key(sealed(t, key, api.LastNonce, nil, make([]byte, 32))[:32])
}

func mustBe(t *testing.T, what string, got, want []byte) {
	t.Helper()
	if !bytes.Equal(got, want) {
		t.Fatalf("%s: %x, not %x", what, got, want)
	}
}

func mustSeal(t *testing.T, c *cipher.State, ad, buf []byte, n int) {
	t.Helper()
	if m, err := c.Seal(ad, buf, n); m != n+16 || err != nil {
		t.Fatalf("Seal of %d bytes: %d, %v", n, m, err)
	}
}

func mustOpen(t *testing.T, c *cipher.State, ad, buf []byte, n int) {
	t.Helper()
	if m, err := c.Open(ad, buf, n); m != n-16 || err != nil {
		t.Fatalf("Open of %d bytes: %d, %v", n, m, err)
	}
}

func mustRekey(t *testing.T, c *cipher.State) {
	t.Helper()
	if err := c.Rekey(); err != nil {
		t.Fatalf("Rekey: %v", err)
	}
}

// mustRefuse asks for what is refused, with nothing for another result.
func mustRefuse(t *testing.T, what string, m int, err, want error) {
	t.Helper()
	if m != 0 || err != want {
		t.Fatalf("%s: %d, %v, not 0, %v", what, m, err, want)
	}
}

func mustCount(t *testing.T, what string, c *cipher.State, number uint64) {
	t.Helper()
	if got := c.Nonce(); got != number {
		t.Fatalf("%s: the number is %d, not %d", what, got, number)
	}
}

// mustHave asks for a State that has that key and that number. The key is told by what it seals; the number is then set back.
func mustHave(t *testing.T, what string, c *cipher.State, key api.Key, number uint64) {
	t.Helper()
	if !c.Has() {
		t.Fatalf("%s: it has no key", what)
	}
	mustCount(t, what, c, number)
	c.SetNonce(4711)
	buf := append([]byte("probe"), make([]byte, 16)...)
	mustSeal(t, c, nil, buf, 5)
	mustBe(t, what+": sealed with its key", buf, sealed(t, key, 4711, nil, []byte("probe")))
	c.SetNonce(number)
}

// mustLack asks for a State that has no key, and that number.
func mustLack(t *testing.T, what string, c *cipher.State, number uint64) {
	t.Helper()
	if c.Has() {
		t.Fatalf("%s: it has a key", what)
	}
	mustCount(t, what, c, number)
	if err := c.Rekey(); err != api.ErrKey {
		t.Fatalf("%s: Rekey: %v", what, err)
	}
}

// mustLog asks whether two traces are alike.
func mustLog(t *testing.T, what string, got, want *trace.Recorder) {
	t.Helper()
	if !trace.Same(got, want) {
		t.Fatalf("%s: %v, not %v", what, got.Runs(), want.Runs())
	}
}
