package kdf_test

import (
	"bytes"
	"fmt"
	"slices"
	"testing"

	"pintle/api"
	"pintle/kdf"
)

// P12.1: the examples of the document.
func TestHMACExamples(t *testing.T) {
	const (
		ofNothing = "eaf4bb25938f4d20e72656bbbc7a9bf63c0c18537333c35bdb67db1402661acd"
		ofGudgeon = "cc34e0c60975b3008d5e2aa70452b3063ef16dd204e18e2413613b8aa03b884a"
		ofLongKey = "ae5b1bc1a080da9c3b5c97d81a18e14dc2383970bbc3412ce9db38c8f264c418"
	)
	key, text := []byte("pintle"), []byte("gudgeon")
	long := bytes.Repeat([]byte{0x61}, 65)
	for _, s := range engines() {
		mustRead(t, "of nothing", kdf.HMAC(s, nil), ofNothing)
		mustRead(t, "of a text", kdf.HMAC(s, key, text), ofGudgeon)
		mustRead(t, "of its pieces", kdf.HMAC(s, key, []byte("gud"), nil, []byte("geon")), ofGudgeon)
		mustRead(t, "with a nought behind the key", kdf.HMAC(s, []byte("pintle\x00"), text), ofGudgeon)
		mustRead(t, "with a long key", kdf.HMAC(s, long, []byte("x")), ofLongKey)
		short := s.Hash(long)
		mustRead(t, "with a long key's digest", kdf.HMAC(s, short[:], []byte("x")), ofLongKey)
	}
}

// P12.1: keys of all lengths with lists of all kinds, against an HMAC that is not the program's own.
func TestHMACOfAll(t *testing.T) {
	for i, s := range engines() {
		for k, key := range keys() {
			for p, pieces := range lists() {
				want := wanted(key, slices.Concat(pieces...)...)
				mustBe(t, fmt.Sprintf("engine %d, key %d, list %d", i, k, p), kdf.HMAC(s, key, pieces...), want)
			}
		}
	}
}

// P12.1: a nil key is one without bytes, and so is one of a list that has room.
func TestHMACOfNoKey(t *testing.T) {
	for _, s := range engines() {
		for _, pieces := range lists() {
			want := kdf.HMAC(s, nil, pieces...)
			mustBe(t, "with an empty key", kdf.HMAC(s, []byte{}, pieces...), want)
			mustBe(t, "with an empty key that has room", kdf.HMAC(s, drawn(1, 70)[:0], pieces...), want)
			mustBe(t, "with a key of noughts", kdf.HMAC(s, make([]byte, 64), pieces...), want)
		}
	}
}

// P12.1: the key comes in by the inner digest and by the outer one, each turned by a byte of its own.
func TestHMACByTheFormula(t *testing.T) {
	for _, s := range engines() {
		for _, n := range []int{0, 1, 32, 64} {
			key := drawn(7, n)
			i, o := bytes.Repeat([]byte{0x36}, 64), bytes.Repeat([]byte{0x5c}, 64)
			for k := range key {
				i[k] ^= key[k]
				o[k] ^= key[k]
			}
			inner := s.Hash(i, []byte("keel"), []byte("son"))
			mustBe(t, "by hand", kdf.HMAC(s, key, []byte("keel"), []byte("son")), s.Hash(o, inner[:]))
		}
	}
}

// P12.1: each bit of a key of up to 64 bytes, and each of a longer one, makes a difference.
func TestHMACTakesTheWholeKey(t *testing.T) {
	for _, s := range engines()[1:3] {
		for _, n := range []int{32, 64, 65} {
			seen := map[api.Key]int{kdf.HMAC(s, drawn(8, n)): -1}
			for bit := range 8 * n {
				key := drawn(8, n)
				key[bit/8] ^= 1 << (bit % 8)
				got := kdf.HMAC(s, key)
				if other, ok := seen[got]; ok {
					t.Fatalf("%d bytes: the bits %d and %d make no difference", n, other, bit)
				}
				seen[got] = bit
			}
		}
	}
}
