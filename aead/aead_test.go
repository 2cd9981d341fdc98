package aead_test

import (
	"bytes"
	"encoding/binary"
	"slices"
	"testing"

	"pintle/aead"
	"pintle/api"
	"pintle/slow"
	"pintle/suite"
	"pintle/trace"
)

// The document's example: a text, and what comes of it, with its tag.
const (
	exampleText   = "keel and rudder"
	exampleSealed = "9a6ae124028914ed42443b5798ed620062cd3028dbe1d2c46b9bd605ed1c0e"
)

// exampleKey is 00 01 .. 1f.
func exampleKey() (key api.Key) {
	for i := range key {
		key[i] = byte(i)
	}
	return key
}

// exampleBuf is 40 bytes: the text, and ff behind it.
func exampleBuf() []byte {
	return append([]byte(exampleText), bytes.Repeat([]byte{0xff}, 25)...)
}

// exampleSealedBuf is exampleBuf once it is sealed under the number 7 with the ad `ship`.
func exampleSealedBuf(t *testing.T) []byte {
	t.Helper()
	buf := exampleBuf()
	mustSeal(t, suite.Plain(), exampleKey(), 7, []byte("ship"), buf, 15)
	return buf
}

// drawn is bytes by a fixed rule, so that every run sees the same ones; each seed has its own.
func drawn(seed uint64, n int) []byte {
	list := make([]byte, n)
	x := seed
	for i := range list {
		x = x*6364136223846793005 + 1442695040888963407
		list[i] = byte(x >> 56)
	}
	return list
}

// engines are all there are, with a Recorder and without.
func engines() []suite.Suite {
	return []suite.Suite{suite.Fast(trace.New()), suite.Fast(nil), suite.Plain(), {}}
}

// lengths are 0, multiples of 16, and one below and one above them; such as the stream turns in fours, and such as take two bytes to write.
func lengths() []int {
	return []int{0, 1, 2, 14, 15, 16, 17, 31, 32, 33, 47, 48, 49, 63, 64, 65, 127, 128, 129, 255, 256, 257, 271, 272, 273, 511, 512, 513}
}

// fewLengths are for tests that go through pairs of them.
func fewLengths() []int { return []int{0, 1, 15, 16, 17, 31, 32, 33, 64, 255, 256, 257} }

// nonceOf is a number as the stream wants it.
func nonceOf(number uint64) api.Nonce {
	return api.Nonce(binary.LittleEndian.AppendUint64(make([]byte, 4), number))
}

// filled is a list with zeros behind it, up to a multiple of 16.
func filled(list []byte) []byte {
	list = slices.Clone(list)
	for len(list)%16 != 0 {
		list = append(list, 0)
	}
	return list
}

// framed is the five pieces of a frame.
func framed(ad, c []byte) [][]byte {
	lengths := binary.LittleEndian.AppendUint64(nil, uint64(len(ad)))
	lengths = binary.LittleEndian.AppendUint64(lengths, uint64(len(c)))
	return [][]byte{ad, filled(ad)[len(ad):], c, filled(c)[len(c):], lengths}
}

// wanted is what Seal is to make of a text: in one piece, and by package slow alone.
func wanted(key api.Key, number uint64, ad, text []byte) []byte {
	nonce := nonceOf(number)
	c := slices.Clone(text)
	slow.XOR(key, 1, nonce, c)
	var once api.Key
	slow.XOR(key, 0, nonce, once[:])
	whole := append(filled(ad), filled(c)...)
	whole = binary.LittleEndian.AppendUint64(whole, uint64(len(ad)))
	whole = binary.LittleEndian.AppendUint64(whole, uint64(len(c)))
	tag := slow.Tag(once, whole)
	return append(c, tag[:]...)
}

func mustBe(t *testing.T, what string, got, want []byte) {
	t.Helper()
	if !bytes.Equal(got, want) {
		t.Fatalf("%s: %x, not %x", what, got, want)
	}
}

func mustSeal(t *testing.T, s suite.Suite, key api.Key, number uint64, ad, buf []byte, n int) {
	t.Helper()
	if m, err := aead.Seal(s, key, number, ad, buf, n); m != n+16 || err != nil {
		t.Fatalf("Seal of %d bytes: %d, %v", n, m, err)
	}
}

func mustOpen(t *testing.T, s suite.Suite, key api.Key, number uint64, ad, buf []byte, n int) {
	t.Helper()
	if m, err := aead.Open(s, key, number, ad, buf, n); m != n-16 || err != nil {
		t.Fatalf("Open of %d bytes: %d, %v", n, m, err)
	}
}

// mustRefuse asks for what is refused, with nothing for another result.
func mustRefuse(t *testing.T, what string, m int, err, want error) {
	t.Helper()
	if m != 0 || err != want {
		t.Fatalf("%s: %d, %v, not 0, %v", what, m, err, want)
	}
}
