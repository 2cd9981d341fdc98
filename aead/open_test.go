package aead_test

import (
	"math"
	"slices"
	"testing"

	"pintle/aead"
	"pintle/api"
	"pintle/suite"
	"pintle/trace"
)

// P11.2: the examples of the document.
func TestOpenExamples(t *testing.T) {
	for _, s := range engines() {
		was := exampleSealedBuf(t)
		buf := slices.Clone(was)
		mustOpen(t, s, exampleKey(), 7, []byte("ship"), buf, 31)
		mustBe(t, "what is opened", buf[:15], []byte(exampleText))
		mustBe(t, "the tag and what is behind it", buf[15:], was[15:])

		buf = slices.Clone(was)
		m, err := aead.Open(s, exampleKey(), 7, []byte("shop"), buf, 31)
		mustRefuse(t, "Open with another ad", m, err, api.ErrAuth)
		mustBe(t, "what is refused", buf[:15], make([]byte, 15))
		mustBe(t, "the tag and what is behind it", buf[15:], was[15:])

		m, err = aead.Open(s, exampleKey(), 7, []byte("ship"), buf, 15)
		mustRefuse(t, "Open of 15 bytes", m, err, api.ErrShort)
		m, err = aead.Open(s, exampleKey(), 7, []byte("ship"), buf, 41)
		mustRefuse(t, "Open of 41 bytes", m, err, api.ErrArg)
	}
}

// P11.2: what is refused of a buffer and a number, ErrArg ahead of ErrShort.
func TestOpenRefuses(t *testing.T) {
	for _, s := range engines() {
		for _, size := range []int{0, 1, 14, 15, 16, 17, 31, 32, 33, 40} {
			for _, n := range []int{math.MinInt, math.MinInt + 1, math.MinInt + 15, math.MinInt + 16, -1 << 32, -17, -16, -15, -1, size + 1, size + 2, size + 16, size + 17, 1 << 32, math.MaxInt - 16, math.MaxInt - 1, math.MaxInt} {
				m, err := aead.Open(s, exampleKey(), 7, nil, drawn(1, size), n)
				mustRefuse(t, "Open, beyond the buffer", m, err, api.ErrArg)
			}
			for n := 0; n < min(16, size+1); n++ {
				m, err := aead.Open(s, exampleKey(), 7, nil, drawn(1, size), n)
				mustRefuse(t, "Open of too few", m, err, api.ErrShort)
			}
			for n := 16; n <= size; n++ {
				m, err := aead.Open(s, exampleKey(), 7, nil, drawn(1, size), n)
				mustRefuse(t, "Open of any bytes", m, err, api.ErrAuth)
			}
		}
		m, err := aead.Open(s, exampleKey(), 7, nil, nil, 0)
		mustRefuse(t, "Open of nil", m, err, api.ErrShort)
		m, err = aead.Open(s, exampleKey(), 7, nil, nil, 16)
		mustRefuse(t, "Open of 16 bytes of nil", m, err, api.ErrArg)
	}
}

// P11.2: the tag is within the length, not in what lies behind the buffer's end.
func TestOpenWantsTheLength(t *testing.T) {
	for _, s := range engines() {
		all := wanted(exampleKey(), 7, nil, drawn(1, 20))
		m, err := aead.Open(s, exampleKey(), 7, nil, all[:35], 36)
		mustRefuse(t, "Open of more than there is", m, err, api.ErrArg)
		mustBe(t, "the room", all, wanted(exampleKey(), 7, nil, drawn(1, 20)))
		mustOpen(t, s, exampleKey(), 7, nil, all[:36], 36)
	}
}

// P11.2: 16 bytes are a tag alone.
func TestOpenOfATag(t *testing.T) {
	for _, s := range engines() {
		for _, a := range fewLengths() {
			tag := wanted(exampleKey(), 7, drawn(2, a), nil)
			mustOpen(t, s, exampleKey(), 7, drawn(2, a), tag, 16)
			mustBe(t, "the tag", tag, wanted(exampleKey(), 7, drawn(2, a), nil))
			tag[15] ^= 1
			was := slices.Clone(tag)
			m, err := aead.Open(s, exampleKey(), 7, drawn(2, a), tag, 16)
			mustRefuse(t, "Open of another tag", m, err, api.ErrAuth)
			mustBe(t, "the tag", tag, was)
		}
	}
}

// P11.2: the text comes back and the tag stays, with every length.
func TestOpenBytes(t *testing.T) {
	key := api.Key(drawn(3, 32))
	for _, n := range lengths() {
		for _, a := range fewLengths() {
			ad, text := drawn(uint64(a)+1, a), drawn(uint64(n)+1000, n)
			sealed := wanted(key, 77, ad, text)
			for _, s := range []suite.Suite{suite.Fast(nil), suite.Plain()} {
				buf := slices.Clone(sealed)
				mustOpen(t, s, key, 77, ad, buf, n+16)
				mustBe(t, "what is opened", buf[:n], text)
				mustBe(t, "the tag", buf[n:], sealed[n:])
			}
		}
	}
}

// mustFail opens what is not authentic: c is zeros, the tag stays.
func mustFail(t *testing.T, s suite.Suite, key api.Key, number uint64, ad, sealed []byte) {
	t.Helper()
	buf := slices.Clone(sealed)
	n := len(sealed) - 16
	m, err := aead.Open(s, key, number, ad, buf, len(buf))
	mustRefuse(t, "Open of what is not authentic", m, err, api.ErrAuth)
	mustBe(t, "what is refused", buf[:n], make([]byte, n))
	mustBe(t, "the tag", buf[n:], sealed[n:])
}

// P11.2: each digit of the tag counts, and each byte of the text.
func TestOpenTurned(t *testing.T) {
	key, ad := api.Key(drawn(4, 32)), drawn(5, 21)
	for _, s := range engines() {
		for _, n := range []int{0, 1, 15, 16, 17, 33, 300} {
			sealed := wanted(key, 5, ad, drawn(6, n))
			for i := range sealed {
				other := slices.Clone(sealed)
				other[i] ^= 1 << (i % 8)
				mustFail(t, s, key, 5, ad, other)
			}
			for digit := range 128 {
				other := slices.Clone(sealed)
				other[n+digit/8] ^= 1 << (digit % 8)
				mustFail(t, s, key, 5, ad, other)
			}
		}
	}
}

// P11.2: another ad, nonce, key or length.
func TestOpenOthers(t *testing.T) {
	key, ad := api.Key(drawn(7, 32)), drawn(8, 21)
	const number = 1<<40 + 5
	for _, s := range engines() {
		for _, n := range []int{1, 16, 33, 300} {
			sealed := wanted(key, number, ad, drawn(9, n))
			for i := range ad {
				other := slices.Clone(ad)
				other[i] ^= 0x80
				mustFail(t, s, key, number, other, sealed)
			}
			for _, other := range [][]byte{nil, ad[:20], ad[1:], append(slices.Clone(ad), 0), filled(ad)} {
				mustFail(t, s, key, number, other, sealed)
			}
			for digit := range 64 {
				mustFail(t, s, key, number^1<<digit, ad, sealed)
			}
			for i := range key {
				other := key
				other[i] ^= 1
				mustFail(t, s, other, number, ad, sealed)
			}
			mustFail(t, s, key, number, ad, sealed[1:])
			mustFail(t, s, key, number, ad, sealed[:len(sealed)-1])
			mustFail(t, s, key, number, ad, append(slices.Clone(sealed), 0))
		}
	}
}

// P11.2: bytes that go over from ad to the text, or the other way, are refused.
func TestOpenMoved(t *testing.T) {
	for _, s := range engines() {
		sealed := wanted(exampleKey(), 5, make([]byte, 16), drawn(9, 32))
		mustFail(t, s, exampleKey(), 5, nil, append(make([]byte, 16), sealed...))
		mustFail(t, s, exampleKey(), 5, append(make([]byte, 16), sealed[:16]...), sealed[16:])
	}
}

// P11.2: what is refused once is refused again, and zeros too: they are no more authentic than what stood there.
func TestOpenAgain(t *testing.T) {
	for _, s := range engines() {
		buf := exampleSealedBuf(t)
		for range 2 {
			m, err := aead.Open(s, exampleKey(), 8, []byte("ship"), buf, 31)
			mustRefuse(t, "Open under another number", m, err, api.ErrAuth)
		}
		m, err := aead.Open(s, exampleKey(), 7, []byte("ship"), buf, 31)
		mustRefuse(t, "Open of the zeros", m, err, api.ErrAuth)
	}
}

// P11.2: just these three calls, in that order; two of them, where it is refused.
func TestOpenCalls(t *testing.T) {
	for _, n := range lengths() {
		for _, a := range lengths() {
			key, ad, text := exampleKey(), drawn(9, a), drawn(10, n)
			sealed := wanted(key, 80, ad, text)
			right := api.Tag(sealed[n:])
			wrong := right
			wrong[3] ^= 4
			for _, tag := range []api.Tag{right, wrong} {
				r, want := trace.New(), trace.New()
				aead.Open(suite.Fast(r), key, 80, ad, append(slices.Clone(sealed[:n]), tag[:]...), n+16)

				s, nonce := suite.Fast(want), nonceOf(80)
				var once api.Key
				s.Stream(key, 0, nonce, once[:])
				if s.Check(once, tag, framed(ad, sealed[:n])...) {
					s.Stream(key, 1, nonce, slices.Clone(sealed[:n]))
				}
				if !trace.Same(r, want) {
					t.Fatalf("Open of %d bytes with an ad of %d logs %v, not %v", n+16, a, r.Runs(), want.Runs())
				}
			}
		}
	}
}
