package slow_test

import (
	"bytes"
	"math"
	"slices"
	"testing"

	"pintle/api"
	"pintle/digest"
	"pintle/slow"
)

// mustDigest is a digest that is not refused and has its size.
func mustDigest(t *testing.T, size int, key []byte, pieces ...[]byte) []byte {
	t.Helper()
	d, err := slow.Digest(size, key, pieces...)
	if err != nil || len(d) != size {
		t.Fatalf("Digest of the size %d and a key of %d bytes: %x, %v", size, len(key), d, err)
	}
	return d
}

func mustRefuse(t *testing.T, size int, key []byte, pieces ...[]byte) {
	t.Helper()
	if d, err := slow.Digest(size, key, pieces...); err != api.ErrArg || len(d) != 0 {
		t.Fatalf("Digest of the size %d and a key of %d bytes: %x, %v", size, len(key), d, err)
	}
}

// other is the other engine's digest.
func other(t *testing.T, size int, key []byte, pieces ...[]byte) []byte {
	t.Helper()
	h, err := digest.New(nil, size, key)
	if err != nil {
		t.Fatalf("New of the size %d and a key of %d bytes: %v", size, len(key), err)
	}
	for _, p := range pieces {
		h.Write(p)
	}
	return h.Sum()
}

// lengths are those beside 64 and its multiples, and a few more.
func lengths() []int {
	return []int{0, 1, 2, 31, 32, 33, 62, 63, 64, 65, 66, 127, 128, 129, 191, 192, 193, 255, 256, 257, 300}
}

// P9.4: the examples of chapter 8.
func TestDigestExamples(t *testing.T) {
	key := counted(32)
	mustBe(t, "no piece", mustDigest(t, 32, nil), fromHex(t, "69217a3079908094e11121d042354a7c1f55b6482ca1a51e1b250dfd1ed0eef9"))
	keel := fromHex(t, "1ddcef8accac345552be6c743bbbb0cadbf8c31271326bd6e3087e7be4039628")
	mustBe(t, "one piece", mustDigest(t, 32, nil, []byte("keel")), keel)
	mustBe(t, "three pieces", mustDigest(t, 32, nil, []byte("ke"), nil, []byte("el")), keel)
	mustBe(t, "of the size 16", mustDigest(t, 16, nil, []byte("keel")), fromHex(t, "dc47fcbeff87902b5389fbdfd8d519a0"))
	mustBe(t, "keyed", mustDigest(t, 32, key), fromHex(t, "48a8997da407876b3d79c0d92325ad3b89cbb754d86ab71aee047ad345fd2c49"))
	mustBe(t, "keyed, then keel", mustDigest(t, 32, key, []byte("keel")), fromHex(t, "656ac078e3a63fc8f27f96c5787eb252365f4f217aeaeac2c7aa50e988e209b1"))
	mustBe(t, "64 zeros", mustDigest(t, 32, nil, make([]byte, 64)), fromHex(t, "ae09db7cd54f42b490ef09b6bc541af688e4959bb8c53f359a6f56e38ab454a3"))
	mustBe(t, "65 zeros", mustDigest(t, 32, nil, make([]byte, 65)), fromHex(t, "857328bf990b00922782d3e81c6054c25d3375d386c7424abe3e01d79041046c"))
	mustBe(t, "abc", mustDigest(t, 32, nil, []byte("abc")), fromHex(t, "508c5e8c327c14e2e1a72ba34eeb452f37458b209ed63a294d999b4c86675982"))
}

// grown is the bytes that RFC 7693 makes for its test of itself.
func grown(n int) []byte {
	list := make([]byte, n)
	a, b := uint32(0xdead4bad)*uint32(n), uint32(1)
	for i := range list {
		a, b = b, a+b
		list[i] = byte(b >> 24)
	}
	return list
}

// P9.4: the number of RFC 7693, E, a digest of many digests.
func TestDigestKnown(t *testing.T) {
	var all [][]byte
	for _, size := range []int{16, 20, 28, 32} {
		for _, n := range []int{0, 3, 64, 65, 255, 1024} {
			all = append(all, mustDigest(t, size, nil, grown(n)), mustDigest(t, size, grown(size), grown(n)))
		}
	}
	mustBe(t, "all of them", mustDigest(t, 32, nil, all...), fromHex(t, "6a411f08ce25adcdfb02aba641451cec53c598b24f4fc787fbdc88797f4c1dfe"))
}

// P9.4: every size and every length of a key, messages beside 64 bytes and its multiples.
func TestDigestBesideDigest(t *testing.T) {
	for size := 1; size <= 32; size++ {
		for k := range 33 {
			key := drawn(uint64(k), k)
			for _, n := range lengths() {
				message := drawn(uint64(n), n)
				mustBe(t, "drawn", mustDigest(t, size, key, message), other(t, size, key, message))
			}
		}
	}
}

// P9.4: each length up to beyond three blocks, keyed and not, bytes at both ends.
func TestDigestLengths(t *testing.T) {
	for n := range 3*64 + 5 {
		for _, k := range []int{0, 1, 32} {
			for _, b := range []byte{0, 1, 0x80, 0xff} {
				key, message := bytes.Repeat([]byte{b}, k), bytes.Repeat([]byte{b}, n)
				mustBe(t, "one byte again and again", mustDigest(t, 32, key, message), other(t, 32, key, message))
			}
		}
	}
}

// P9.4: long ones, beside the longest message and beyond.
func TestDigestLong(t *testing.T) {
	for _, n := range []int{4095, 4096, 4097, 65535, 65536, 65537} {
		message := drawn(uint64(n), n)
		mustBe(t, "plain", mustDigest(t, 32, nil, message), other(t, 32, nil, message))
		mustBe(t, "keyed", mustDigest(t, 20, counted(32), message), other(t, 20, counted(32), message))
	}
}

// P9.4: no key, a nil one and one without a byte are the same; one of a zero is another one.
func TestNoKey(t *testing.T) {
	want := mustDigest(t, 32, nil, []byte("keel"))
	mustBe(t, "a key without a byte", mustDigest(t, 32, []byte{}, []byte("keel")), want)
	seen := map[string]int{string(want): 1}
	for k := 1; k <= 32; k++ {
		seen[string(mustDigest(t, 32, make([]byte, k), []byte("keel")))]++
	}
	if len(seen) != 33 {
		t.Errorf("%d digests of so many keys of zeros, not 33", len(seen))
	}
}

// P9.4: where New refuses, and nowhere else.
func TestDigestRefused(t *testing.T) {
	sizes := []int{0, -1, -32, 33, 34, 64, 256, 257, 65536 + 16, 1<<32 + 16, math.MinInt, math.MaxInt}
	for _, size := range sizes {
		mustRefuse(t, size, nil)
		mustRefuse(t, size, counted(32), []byte("keel"))
		mustRefuse(t, size, make([]byte, 33), nil, []byte("keel"))
	}
	for _, k := range []int{33, 34, 63, 64, 65, 256, 257, 288, 65536 + 16} {
		for size := 1; size <= 32; size++ {
			mustRefuse(t, size, make([]byte, k))
			mustRefuse(t, size, make([]byte, k), []byte("keel"))
		}
	}
	for size := -2; size < 36; size++ {
		for k := range 36 {
			_, refused := digest.New(nil, size, make([]byte, k))
			if _, err := slow.Digest(size, make([]byte, k)); err != refused {
				t.Errorf("the size %d and a key of %d bytes: %v, not %v", size, k, err, refused)
			}
		}
	}
}

// P9.4: however the same bytes are cut, keyed or not.
func TestDigestCuts(t *testing.T) {
	for _, n := range []int{0, 1, 63, 64, 65, 127, 128, 129, 193} {
		all := drawn(13, n)
		for _, key := range [][]byte{nil, counted(32), {7}} {
			want := other(t, 24, key, all)
			for _, pieces := range cuts(all) {
				mustBe(t, "in pieces", mustDigest(t, 24, key, pieces...), want)
			}
		}
	}
}

// P9.4: many pieces.
func TestDigestMany(t *testing.T) {
	all := drawn(14, 3000)
	pieces := slices.Collect(slices.Chunk(all, 1))
	mustBe(t, "byte by byte", mustDigest(t, 32, nil, pieces...), other(t, 32, nil, all))
	mustBe(t, "a thousand without a byte", mustDigest(t, 32, nil, make([][]byte, 1000)...), mustDigest(t, 32, nil))
}
