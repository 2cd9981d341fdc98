package kdf_test

import (
	"slices"
	"testing"

	"pintle/api"
	"pintle/kdf"
)

// P12.5: HMAC of pieces is HMAC of all of them as one, wherever they are cut.
func TestCutsMakeNoDifference(t *testing.T) {
	message := drawn(1, 150)
	for _, s := range engines() {
		for _, key := range keys() {
			want := kdf.HMAC(s, key, message)
			for _, at := range []int{0, 1, 63, 64, 65, 127, 128, 149, 150} {
				mustBe(t, "of two pieces", kdf.HMAC(s, key, message[:at], message[at:]), want)
				mustBe(t, "with nothing between", kdf.HMAC(s, key, message[:at], nil, message[at:]), want)
			}
			for _, size := range []int{1, 7, 64} {
				pieces := slices.Collect(slices.Chunk(message, size))
				mustBe(t, "of many pieces", kdf.HMAC(s, key, pieces...), want)
			}
		}
	}
}

// P12.5: a key of more than 64 bytes and its digest; one of 64 bytes and its digest are unlike.
func TestLongKeys(t *testing.T) {
	for _, s := range engines() {
		for _, n := range []int{65, 66, 127, 128, 129, 200, 1000} {
			key := drawn(2, n)
			short := s.Hash(key)
			for _, pieces := range lists() {
				mustBe(t, "with a key's digest", kdf.HMAC(s, short[:], pieces...), kdf.HMAC(s, key, pieces...))
			}
		}
		for _, n := range []int{0, 1, 32, 63, 64} {
			key := drawn(2, n)
			short := s.Hash(key)
			if kdf.HMAC(s, short[:], drawn(3, 9)) == kdf.HMAC(s, key, drawn(3, 9)) {
				t.Errorf("a key of %d bytes is digested", n)
			}
		}
	}
}

// P12.5: a key of fewer than 64 bytes and the same with a nought behind it; one of 64 bytes is filled up no more.
func TestNoughtBehindAKey(t *testing.T) {
	for _, s := range engines() {
		for n := range 64 {
			key := drawn(4, n)
			for _, pieces := range [][][]byte{nil, {drawn(5, 70)}, {nil, drawn(6, 3)}} {
				mustBe(t, "with a nought behind the key", kdf.HMAC(s, append(key, 0), pieces...), kdf.HMAC(s, key, pieces...))
			}
		}
		key := drawn(4, 64)
		if kdf.HMAC(s, append(key, 0)) == kdf.HMAC(s, key) {
			t.Error("65 bytes are taken as 64")
		}
	}
}

// P12.5: the two keys of Two are the first two of Three.
func TestTwoIsTheBeginningOfThree(t *testing.T) {
	for _, s := range engines() {
		for _, chain := range chains() {
			for _, in := range ins() {
				a, b := kdf.Two(s, chain, in)
				x, y, z := kdf.Three(s, chain, in)
				if a != x || b != y || z == x || z == y {
					t.Fatalf("Two: %x, %x; Three: %x, %x, %x", a, b, x, y, z)
				}
			}
		}
	}
}

// P12.5: all engines answer alike.
func TestEnginesAlike(t *testing.T) {
	for seed := range uint64(40) {
		key, in := drawn(seed, int(seed*5)), drawn(seed+100, int(seed*7))
		chain := api.Key(drawn(seed+200, 32))
		var first [6]api.Key
		for i, s := range engines() {
			var got [6]api.Key
			got[0] = kdf.HMAC(s, key, in, drawn(seed, 3))
			got[1], got[2] = kdf.Two(s, chain, in)
			got[3], got[4], got[5] = kdf.Three(s, chain, in)
			if i == 0 {
				first = got
			}
			if got != first {
				t.Fatalf("engine %d: %x, not %x", i, got, first)
			}
		}
	}
}
