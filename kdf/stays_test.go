package kdf_test

import (
	"bytes"
	"slices"
	"testing"

	"pintle/api"
	"pintle/kdf"
	"pintle/suite"
)

// roomy is bytes in the midst of a longer list, so that there is something ahead of them and behind their end.
func roomy(seed uint64, n int) (all, part []byte) {
	all = drawn(seed, n+200)
	return all, all[100 : 100+n]
}

func mustStay(t *testing.T, what string, all, was []byte) {
	t.Helper()
	if !bytes.Equal(all, was) {
		t.Fatalf("%s: %x, not %x", what, all, was)
	}
}

// P12.6: the key and the pieces are as they were, and what lies behind their ends.
func TestHMACChangesNothing(t *testing.T) {
	for _, s := range engines() {
		for _, n := range keyLengths() {
			all, key := roomy(1, n)
			var around, pieces [][]byte
			for i, m := range inLengths() {
				wide, piece := roomy(uint64(10+i), m)
				around, pieces = append(around, wide), append(pieces, piece)
			}
			kdf.HMAC(s, key, pieces...)
			mustStay(t, "the key", all, drawn(1, n+200))
			for i, m := range inLengths() {
				mustStay(t, "a piece", around[i], drawn(uint64(10+i), m+200))
			}
		}
	}
}

// P12.6: the list of the pieces has the same ones in the same order, and what lies behind its end stays.
func TestListOfPiecesStays(t *testing.T) {
	for _, s := range engines() {
		for n := range 9 {
			list := make([][]byte, 9)
			for i := range list {
				list[i] = drawn(uint64(i), 10+i)
			}
			was := slices.Clone(list)
			kdf.HMAC(s, drawn(20, 40), list[:n]...)
			for i := range list {
				if len(list[i]) != len(was[i]) || &list[i][0] != &was[i][0] {
					t.Fatalf("of a list of %d pieces the one numbered %d is another one", n, i)
				}
			}
		}
	}
}

// P12.6: the bytes in, and what lies behind their end, are as they were; the chaining key too.
func TestKeysChangeNothing(t *testing.T) {
	for _, s := range engines() {
		for _, n := range inLengths() {
			all, in := roomy(2, n)
			chain := api.Key(drawn(3, 32))
			kdf.Two(s, chain, in)
			kdf.Three(s, chain, in)
			mustStay(t, "in", all, drawn(2, n+200))
			mustStay(t, "the chaining key", chain[:], drawn(3, 32))
		}
	}
}

// P12.6: one list may come in as the key and as a piece, or as a piece twice.
func TestOneListTwice(t *testing.T) {
	for _, s := range engines() {
		for _, n := range keyLengths() {
			list := drawn(4, n)
			want := wanted(drawn(4, n), slices.Concat(drawn(4, n), drawn(4, n))...)
			mustBe(t, "of its own key", kdf.HMAC(s, list, list, list), want)
			mustStay(t, "the list", list, drawn(4, n))
		}
	}
}

// answers are what one key, chaining key and bytes lead to.
func answers(s suite.Suite, key, in []byte, chain api.Key) [6]api.Key {
	a, b := kdf.Two(s, chain, in)
	x, y, z := kdf.Three(s, chain, in)
	return [6]api.Key{kdf.HMAC(s, key, in, key), a, b, x, y, z}
}

// P12.6: what is written over later, of what was handed in or answered, changes no answer, neither that one nor a later one.
func TestNothingIsKept(t *testing.T) {
	for _, s := range engines() {
		for _, n := range keyLengths() {
			key, in, chain := drawn(5, n), drawn(6, n), api.Key(drawn(7, 32))
			first := answers(s, key, in, chain)
			was := first
			clear(key)
			clear(in)
			clear(chain[:])
			if first != was {
				t.Fatal("an answer hangs on what was handed in")
			}
			answers(s, key, in, chain)
			for i := range first {
				clear(first[i][:])
			}
			if again := answers(s, drawn(5, n), drawn(6, n), api.Key(drawn(7, 32))); again != was {
				t.Fatalf("asked again: %x, not %x", again, was)
			}
		}
	}
}
