package kdf_test

import (
	"fmt"
	"testing"

	"pintle/api"
	"pintle/kdf"
)

// What the document's example answers, one key behind the other.
const (
	exampleFirst  = "8387b46bf43eccfcf349552a095d8315c4055beb90208fb1be23b894bc2ed5d0"
	exampleSecond = "58a0e5f6faefccf4807bff1f05fa8a9217945762040bcec2f4b4a62bdfe0e86e"
	exampleThird  = "0ce6ea98ec548f8e281e93e32db65621c45eb18dc6f0a7ad94178610a2f7338e"
)

// P12.2: the example of the document.
func TestTwoExample(t *testing.T) {
	for _, s := range engines() {
		a, b := kdf.Two(s, api.Key{}, nil)
		mustRead(t, "the first of Two", a, exampleFirst)
		mustRead(t, "the second of Two", b, exampleSecond)
	}
}

// P12.3: the example of the document.
func TestThreeExample(t *testing.T) {
	for _, s := range engines() {
		a, b, c := kdf.Three(s, api.Key{}, nil)
		mustRead(t, "the first of Three", a, exampleFirst)
		mustRead(t, "the second of Three", b, exampleSecond)
		mustRead(t, "the third of Three", c, exampleThird)
	}
}

// P12.2, P12.3: any chaining key, any bytes; against an HMAC that is not the program's own.
func TestKeysOfAll(t *testing.T) {
	for i, s := range engines() {
		for k, chain := range chains() {
			for _, in := range ins() {
				what := fmt.Sprintf("engine %d, chaining key %d, %d bytes", i, k, len(in))
				want := wantedThree(chain, in)
				a, b := kdf.Two(s, chain, in)
				if [2]api.Key{a, b} != [2]api.Key(want[:2]) {
					t.Fatalf("%s: Two: %x, %x, not %x", what, a, b, want[:2])
				}
				x, y, z := kdf.Three(s, chain, in)
				if [3]api.Key{x, y, z} != want {
					t.Fatalf("%s: Three: %x, %x, %x, not %x", what, x, y, z, want)
				}
			}
		}
	}
}

// P12.2, P12.3: each key as HMAC asked by hand answers it.
func TestKeysByHand(t *testing.T) {
	for _, s := range engines() {
		for _, chain := range chains() {
			for _, in := range ins() {
				made := kdf.HMAC(s, chain[:], in)
				first := kdf.HMAC(s, made[:], []byte{1})
				second := kdf.HMAC(s, made[:], first[:], []byte{2})
				third := kdf.HMAC(s, made[:], second[:], []byte{3})

				a, b := kdf.Two(s, chain, in)
				mustBe(t, "the first of Two", a, first)
				mustBe(t, "the second of Two", b, second)
				x, y, z := kdf.Three(s, chain, in)
				mustBe(t, "the first of Three", x, first)
				mustBe(t, "the second of Three", y, second)
				mustBe(t, "the third of Three", z, third)
			}
		}
	}
}

// P12.2, P12.3: keys of unlike chaining keys and bytes, and the keys of one answer, are unlike (in these).
func TestKeysAreUnlike(t *testing.T) {
	for _, s := range engines() {
		seen := map[api.Key]bool{}
		asked := 0
		for _, chain := range chains() {
			for _, in := range ins()[1:] {
				a, b, c := kdf.Three(s, chain, in)
				seen[a], seen[b], seen[c] = true, true, true
				asked += 3
			}
		}
		if len(seen) != asked {
			t.Errorf("%d keys of %d are unlike", len(seen), asked)
		}
	}
}
