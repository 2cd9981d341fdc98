package slow_test

import (
	"bytes"
	"math"
	"slices"
	"testing"

	"pintle/api"
	"pintle/slow"
	"pintle/stream"
)

func exampleNonce() api.Nonce {
	return api.Nonce{0, 0, 0, 0, 1, 2, 3, 4, 5, 6, 7, 8}
}

// nonces are nonces at both ends and between.
func nonces() []api.Nonce {
	list := []api.Nonce{{}, api.Nonce(bytes.Repeat([]byte{0xff}, 12)), exampleNonce()}
	for seed := range uint64(3) {
		list = append(list, api.Nonce(drawn(100+seed, 12)))
	}
	return list
}

// counters are counters at both ends, beside 2^31 and between.
func counters() []uint32 {
	return []uint32{0, 1, 2, 255, 256, 65535, 65536, 0x12345678, 1<<31 - 1, 1 << 31, math.MaxUint32 - 3, math.MaxUint32 - 2, math.MaxUint32 - 1, math.MaxUint32}
}

// beside are counters that come to 2^32 within a few blocks, and those that do not.
func beside() []uint32 {
	list := []uint32{0, 1, 77, 1<<31 - 2}
	for less := range uint32(7) {
		list = append(list, math.MaxUint32-less)
	}
	return list
}

const longest = 6*64 + 2 // lengths of what is turned that the tests go through one by one

// P9.2: the examples of chapter 6.
func TestStreamExamples(t *testing.T) {
	k, n := exampleKey(), exampleNonce()
	b := slow.Block(k, 1, n)
	mustBe(t, "the first 16 bytes", b[:16], fromHex(t, "efe6a5f8a58ca89c10bfe8d68aec275e"))
	mustBe(t, "the last 4 bytes", b[60:], fromHex(t, "1167d0ed"))
	b = slow.Block(api.Key{}, 0, api.Nonce{})
	mustBe(t, "the first 16 bytes of zeros", b[:16], fromHex(t, "76b8e0ada0f13d90405d6ae55386bd28"))
	buf := []byte("keel and rudder")
	slow.XOR(k, 1, n, buf)
	mustBe(t, "keel and rudder", buf, fromHex(t, "8483c09485edc6f830cd9db2ee8955"))
	buf = make([]byte, 80)
	slow.XOR(k, 4294967295, n, buf)
	b = slow.Block(k, 0, n)
	mustBe(t, "behind the last counter", buf[64:], b[:16])
}

// P9.2: the numbers of RFC 8439, 2.3.2 and 2.4.2.
func TestStreamKnown(t *testing.T) {
	b := slow.Block(exampleKey(), 1, api.Nonce{3: 9, 7: 0x4a})
	mustBe(t, "Block", b[:], fromHex(t, "10f1e7e4d13b5915500fdd1fa32071c4c7d1f4c733c068030422aa9ac3d46c4ed2826446079faa0914c2d705d98b02a2b5129cd1de164eb9cbd083e8a2503c4e"))
	buf := []byte("Ladies and Gentlemen of the class of '99: If I could offer you only one tip for the future, sunscreen would be it.")
	slow.XOR(exampleKey(), 1, api.Nonce{7: 0x4a}, buf)
	mustBe(t, "XOR", buf, fromHex(t, "6e2e359a2568f98041ba0728dd0d6981e97e7aec1d4360c20a27afccfd9fae0bf91b65c5524733ab8f593dabcd62b3571639d624e65152ab8f530c359f0861d807ca0dbf500d6a6156a38e088a22b65e52bc514d16ccf806818ce91ab77937365af90bbf74a35be6b40b8eedf2785e42874d"))
}

// mustBlock holds Block against the other engine's.
func mustBlock(t *testing.T, key api.Key, counter uint32, nonce api.Nonce) {
	t.Helper()
	got, want := slow.Block(key, counter, nonce), stream.Block(nil, key, counter, nonce)
	if got != want {
		t.Fatalf("Block(%x, %d, %x): %x, not %x", key, counter, nonce, got, want)
	}
}

// P9.2
func TestBlockBesideStream(t *testing.T) {
	for _, k := range keys() {
		for _, n := range nonces() {
			for _, c := range counters() {
				mustBlock(t, k, c, n)
			}
		}
	}
}

// P9.2: each binary digit of the key, of the nonce and of the counter for itself.
func TestBlockDigits(t *testing.T) {
	for i := range 256 {
		var k api.Key
		k[i/8] = 1 << (i % 8)
		mustBlock(t, k, 0, api.Nonce{})
	}
	for i := range 96 {
		var n api.Nonce
		n[i/8] = 1 << (i % 8)
		mustBlock(t, api.Key{}, 0, n)
	}
	for i := range 32 {
		mustBlock(t, api.Key{}, 1<<i, api.Nonce{})
	}
}

// mustTurn holds XOR of n bytes against the other engine's and against Block; what stands ahead of buf and behind its end has to stay; twice, all is as it was.
func mustTurn(t *testing.T, key api.Key, counter uint32, nonce api.Nonce, n int) {
	t.Helper()
	const margin = 100 // more than a block
	was := drawn(uint64(n), margin+n+margin)
	all, want := slices.Clone(was), slices.Clone(was)
	stream.XOR(nil, key, counter, nonce, want[margin:margin+n])
	slow.XOR(key, counter, nonce, all[margin:margin+n])
	for i := range all {
		if all[i] != want[i] {
			t.Fatalf("XOR of %d bytes from the counter %d on: byte %d is %x, not %x", n, counter, i-margin, all[i], want[i])
		}
	}
	for at := 0; at < n; at += 64 {
		b := slow.Block(key, counter+uint32(at/64), nonce)
		for i := at; i < min(n, at+64); i++ {
			if all[margin+i] != was[margin+i]^b[i-at] {
				t.Fatalf("XOR of %d bytes from the counter %d on: byte %d is not Block's", n, counter, i)
			}
		}
	}
	slow.XOR(key, counter, nonce, all[margin:margin+n])
	mustBe(t, "there and back", all, was)
}

// P9.2: each length from nothing to beyond four blocks, counters beside 2^32 and others.
func TestXOR(t *testing.T) {
	for i, c := range beside() {
		k, n := keys()[i%len(keys())], nonces()[i%len(nonces())]
		for length := range longest + 1 {
			mustTurn(t, k, c, n, length)
		}
	}
}

// P9.2: every key, nonce and counter.
func TestXORKeys(t *testing.T) {
	for _, k := range keys() {
		for _, n := range nonces() {
			for _, c := range counters() {
				mustTurn(t, k, c, n, 64+64+1)
			}
		}
	}
}

// P9.2: long ones, beside the longest message and beyond.
func TestXORLong(t *testing.T) {
	for _, c := range []uint32{0, math.MaxUint32 - 1000} {
		for _, length := range []int{4095, 4096, 4097, 65535, 65536, 65537} {
			mustTurn(t, exampleKey(), c, exampleNonce(), length)
		}
	}
}

// P9.2: a buf without a byte stays, and so does the room behind it.
func TestXORNothing(t *testing.T) {
	for _, c := range beside() {
		slow.XOR(exampleKey(), c, exampleNonce(), nil)
		slow.XOR(exampleKey(), c, exampleNonce(), []byte{})
		room := drawn(1, 300)
		slow.XOR(exampleKey(), c, exampleNonce(), room[:0])
		slow.XOR(exampleKey(), c, exampleNonce(), room[150:150])
		slow.XOR(exampleKey(), c, exampleNonce(), room[300:])
		mustBe(t, "the room", room, drawn(1, 300))
	}
}

// P9.2: in pieces, each with the counter of its first block, as in one.
func TestXORPieces(t *testing.T) {
	for _, c := range beside() {
		whole, cut := drawn(2, longest), drawn(2, longest)
		slow.XOR(exampleKey(), c, exampleNonce(), whole)
		slow.XOR(exampleKey(), c, exampleNonce(), cut[:128])
		slow.XOR(exampleKey(), c+2, exampleNonce(), cut[128:192])
		slow.XOR(exampleKey(), c+3, exampleNonce(), cut[192:])
		mustBe(t, "in pieces", cut, whole)
	}
}
