package symmetric_test

import (
	"testing"

	"pintle/api"
	"pintle/cipher"
	"pintle/kdf"
	"pintle/suite"
	"pintle/symmetric"
	"pintle/trace"
)

// P14.8: two ciphers with the keys that Two makes of the chaining key and nothing, each with the number 0, whether there was a key or not.
func TestSplit(t *testing.T) {
	for _, s := range engines() {
		for _, n := range []int{0, 1, 31, 32, 33, 64, 65, 200} {
			y, m := pair(s, drawn(1, n))
			first, second := y.Split()
			a, b := kdf.Two(suite.Plain(), m.chain, nil)
			mustCipher(t, "the first", first, a)
			mustCipher(t, "the second", second, b)
			y.MixKey(drawn(2, n))
			m.mixKey(drawn(2, n))
			mustSeal(t, "a message", y, m, drawn(3, n))
			first, second = y.Split()
			a, b = kdf.Two(suite.Plain(), m.chain, nil)
			mustCipher(t, "the first, behind a message", first, a)
			mustCipher(t, "the second, behind a message", second, b)
			y.MixKeyAndHash(drawn(4, n))
			m.mixKeyAndHash(drawn(4, n))
			mustSplit(t, "behind a psk", y, m)
		}
	}
}

// P14.8: the State is as it was, and goes on; at the last number too.
func TestSplitChangesNothing(t *testing.T) {
	for _, s := range engines() {
		bare, bareModel := pair(s, []byte("keel"))
		y, m := keyedPair(s)
		for range 3 {
			bare.Split()
			y.Split()
			mustHold(t, "split without a key", bare, bareModel)
			mustHold(t, "split with a key", y, m)
		}
		setNumber(y, m, api.LastNonce)
		mustSplit(t, "at the last number", y, m)
		refusedSeal(t, y, m, 40, 20, api.ErrNonce)
	}
}

// P14.8: asked again, it answers two others: what is done to the first two does not show in them.
func TestSplitAgain(t *testing.T) {
	for _, s := range engines() {
		y, m := keyedPair(s)
		a, b := m.split()
		first, second := y.Split()
		for _, c := range []*cipher.State{first, second} {
			c.Seal(nil, make([]byte, 40), 20)
			c.Rekey()
			c.SetNonce(77)
		}
		third, fourth := y.Split()
		if first == second || third == fourth || first == third || second == fourth {
			t.Fatal("one cipher twice")
		}
		mustCipher(t, "the first, asked again", third, a)
		mustCipher(t, "the second, asked again", fourth, b)
		if first.Nonce() != 77 || second.Nonce() != 77 {
			t.Errorf("%d, %d", first.Nonce(), second.Nonce())
		}
		mustHold(t, "behind Split", y, m)
	}
}

// P14.8: the two of one Split have nothing in common.
func TestSplitApart(t *testing.T) {
	for _, s := range engines() {
		y, m := keyedPair(s)
		_, b := m.split()
		first, second := y.Split()
		first.Seal(nil, make([]byte, 40), 20)
		first.Rekey()
		first.SetNonce(9)
		mustCipher(t, "the second", second, b)
		if first.Nonce() != 9 {
			t.Errorf("%d", first.Nonce())
		}
	}
}

// P14.8: they are ciphers of the State's own Suite: they log where it logs, and just what they do.
func TestSplitKeepsTheSuite(t *testing.T) {
	r, want := trace.New(), trace.New()
	y := symmetric.New(suite.Fast(r), []byte("keel"))
	first, second := y.Split()
	a, b := begun(suite.Fast(want), []byte("keel")).split()
	mustLog(t, "Split", r, want)
	for i, c := range []*cipher.State{first, second} {
		made := cipher.New(suite.Fast(want))
		made.Key([]api.Key{a, b}[i])
		c.Seal([]byte("ad"), drawn(1, 40), 24)
		made.Seal([]byte("ad"), drawn(1, 40), 24)
		mustLog(t, "Seal", r, want)
		c.Rekey()
		made.Rekey()
		mustLog(t, "Rekey", r, want)
	}
}
