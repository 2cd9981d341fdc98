package slow_test

import (
	"bytes"
	"encoding/hex"
	"slices"
	"testing"

	"pintle/api"
	"pintle/mac"
	"pintle/slow"
)

func mustTag(t *testing.T, what string, got, want api.Tag) {
	t.Helper()
	mustBe(t, what, got[:], want[:])
}

// messages are messages of one length, at both ends and between.
func messages(n int) [][]byte {
	return [][]byte{make([]byte, n), bytes.Repeat([]byte{0xff}, n), bytes.Repeat([]byte{1}, n), drawn(uint64(n), n), drawn(uint64(n)+1000, n)}
}

// smallKey has 2 as its multiplier, and the mask 10 11 .. 1f.
func smallKey() api.Key {
	k := exampleKey()
	clear(k[:16])
	k[0] = 2
	return k
}

// P9.3: the examples of chapter 7.
func TestTagExamples(t *testing.T) {
	m, k := smallKey(), exampleKey()
	masked := api.Tag(counted(32)[16:])
	mustTag(t, "no piece", slow.Tag(m), masked)
	mustTag(t, "two without a byte", slow.Tag(m, nil, []byte{}), masked)
	mustTag(t, "01", slow.Tag(m, []byte{1}), api.Tag(fromHex(t, "121312131415161718191a1b1c1d1e1f")))
	mustTag(t, "a key of zeros", slow.Tag(api.Key{}, []byte("any"), []byte("pieces, of more than a block")), api.Tag{})
	want := api.Tag(fromHex(t, "da9c06cb63a6479418b2acddf6a2b136"))
	mustTag(t, "one piece", slow.Tag(k, []byte("keel and rudder")), want)
	mustTag(t, "three pieces", slow.Tag(k, []byte("keel"), []byte(" and "), []byte("rudder")), want)
}

// P9.3: numbers of RFC 8439, 2.5.2 and A.3: sums at the prime, above it and beside 2^128.
func TestTagKnown(t *testing.T) {
	const ones, zeros = "ffffffffffffffffffffffffffffffff", "00000000000000000000000000000000"
	const one, two = "01000000000000000000000000000000", "02000000000000000000000000000000"
	for _, x := range []struct{ key, message, tag string }{
		{"85d6be7857556d337f4452fe42d506a80103808afb0db2fd4abff6af4149f51b", hex.EncodeToString([]byte("Cryptographic Forum Research Group")), "a8061dc1305136c6c22b8baf0c0127a9"},
		{two + zeros, ones, "03000000000000000000000000000000"},
		{two + ones, two, "03000000000000000000000000000000"},
		{one + zeros, ones + "f0ffffffffffffffffffffffffffffff" + "11000000000000000000000000000000", "05000000000000000000000000000000"},
		{one + zeros, ones + "fbfefefefefefefefefefefefefefefe" + "01010101010101010101010101010101", zeros},
		{two + zeros, "fdffffffffffffffffffffffffffffff", "faffffffffffffffffffffffffffffff"},
	} {
		mustTag(t, x.message, slow.Tag(api.Key(fromHex(t, x.key)), fromHex(t, x.message)), api.Tag(fromHex(t, x.tag)))
	}
}

// P9.3: the other engine's answers, keys of all kinds, each length up to beyond three blocks.
func TestTagBesideMac(t *testing.T) {
	for _, k := range append(keys(), smallKey()) {
		for n := range 3*16 + 5 {
			for _, message := range messages(n) {
				mustTag(t, hex.EncodeToString(message), slow.Tag(k, message), mac.Of(nil, k, message))
			}
		}
	}
}

// P9.3: long ones, beside the longest message and beyond.
func TestTagLong(t *testing.T) {
	for _, n := range []int{255, 256, 257, 4095, 4096, 65535, 65536, 65537} {
		for _, message := range messages(n) {
			mustTag(t, "a long one", slow.Tag(exampleKey(), message), mac.Of(nil, exampleKey(), message))
		}
	}
}

// P9.3: each binary digit of the key for itself, so that those that do not count are seen too.
func TestTagDigits(t *testing.T) {
	message := drawn(7, 37)
	for i := range 256 {
		var k api.Key
		k[i/8] = 1 << (i % 8)
		mustTag(t, hex.EncodeToString(k[:]), slow.Tag(k, message), mac.Of(nil, k, message))
	}
}

// P9.3: however the same bytes are cut.
func TestTagCuts(t *testing.T) {
	for _, n := range []int{0, 1, 15, 16, 17, 31, 32, 33, 48, 53} {
		all := drawn(9, n)
		want := slow.Tag(exampleKey(), all)
		for _, pieces := range cuts(all) {
			mustTag(t, "in pieces", slow.Tag(exampleKey(), pieces...), want)
			mustTag(t, "the other engine's", mac.Of(nil, exampleKey(), pieces...), want)
		}
	}
}

// P9.3: many pieces.
func TestTagMany(t *testing.T) {
	all := drawn(10, 3000)
	pieces := slices.Collect(slices.Chunk(all, 1))
	mustTag(t, "byte by byte", slow.Tag(exampleKey(), pieces...), mac.Of(nil, exampleKey(), all))
	mustTag(t, "a thousand without a byte", slow.Tag(exampleKey(), make([][]byte, 1000)...), slow.Tag(exampleKey()))
}
