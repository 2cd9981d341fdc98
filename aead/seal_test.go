package aead_test

import (
	"encoding/hex"
	"math"
	"slices"
	"testing"

	"pintle/aead"
	"pintle/api"
	"pintle/suite"
	"pintle/trace"
)

// P11.1: the examples of the document.
func TestSealExamples(t *testing.T) {
	for _, s := range engines() {
		buf := exampleBuf()
		for _, x := range []struct {
			n    int
			want error
		}{{-1, api.ErrArg}, {41, api.ErrArg}, {25, api.ErrRoom}} {
			m, err := aead.Seal(s, exampleKey(), 7, nil, buf, x.n)
			mustRefuse(t, "Seal", m, err, x.want)
		}
		mustSeal(t, s, exampleKey(), 7, []byte("ship"), buf, 15)
		if got := hex.EncodeToString(buf[:31]); got != exampleSealed {
			t.Errorf("%s, not %s", got, exampleSealed)
		}
		mustBe(t, "what is behind the tag", buf[31:], exampleBuf()[31:])

		small := make([]byte, 16)
		mustSeal(t, s, exampleKey(), 0, nil, small, 0)
		if got := hex.EncodeToString(small); got != "10324f800a160bd9a1794255be7ec29d" {
			t.Errorf("of no byte: %s", got)
		}
	}
}

// P11.1: a buffer and a number, and what is refused of them, ErrArg ahead of ErrRoom.
func TestSealRefuses(t *testing.T) {
	for _, s := range engines() {
		for _, size := range []int{0, 1, 15, 16, 17, 31, 32, 33, 40} {
			for _, n := range []int{math.MinInt, math.MinInt + 1, math.MinInt + 15, math.MinInt + 16, -1 << 32, -17, -16, -15, -1, size + 1, size + 2, size + 16, size + 17, 1 << 32, math.MaxInt - 16, math.MaxInt - 15, math.MaxInt - 1, math.MaxInt} {
				m, err := aead.Seal(s, exampleKey(), 7, nil, drawn(1, size), n)
				mustRefuse(t, "Seal, beyond the buffer", m, err, api.ErrArg)
			}
			for n := max(0, size-15); n <= size; n++ {
				m, err := aead.Seal(s, exampleKey(), 7, nil, drawn(1, size), n)
				mustRefuse(t, "Seal, without room", m, err, api.ErrRoom)
			}
			if size >= 16 {
				mustSeal(t, s, exampleKey(), 7, nil, drawn(1, size), size-16)
			}
		}
		m, err := aead.Seal(s, exampleKey(), 7, nil, nil, 0)
		mustRefuse(t, "Seal of nil", m, err, api.ErrRoom)
		m, err = aead.Seal(s, exampleKey(), 7, nil, nil, 1)
		mustRefuse(t, "Seal of one byte of nil", m, err, api.ErrArg)
	}
}

// P11.1: room is what the buffer's length has, not what lies behind its end.
func TestSealWantsRoomInTheLength(t *testing.T) {
	for _, s := range engines() {
		room := drawn(2, 100)
		m, err := aead.Seal(s, exampleKey(), 7, nil, room[:35], 20)
		mustRefuse(t, "Seal with 15 bytes of room", m, err, api.ErrRoom)
		m, err = aead.Seal(s, exampleKey(), 7, nil, room[:35], 36)
		mustRefuse(t, "Seal of more than there is", m, err, api.ErrArg)
		mustBe(t, "the room", room, drawn(2, 100))
		mustSeal(t, s, exampleKey(), 7, nil, room[:36], 20)
	}
}

// P11.1: the bytes and the tag, with every length of the text and of ad.
func TestSealBytes(t *testing.T) {
	key := api.Key(drawn(3, 32))
	for _, n := range lengths() {
		for _, a := range fewLengths() {
			ad, text := drawn(uint64(a)+1, a), drawn(uint64(n)+1000, n)
			want := wanted(key, 77, ad, text)
			for _, s := range []suite.Suite{suite.Fast(nil), suite.Plain()} {
				buf := append(slices.Clone(text), drawn(4, 16)...)
				mustSeal(t, s, key, 77, ad, buf, n)
				mustBe(t, "what is sealed", buf, want)
			}
		}
	}
}

// P11.1: the same with every length of ad beside few of the text.
func TestSealAd(t *testing.T) {
	key := api.Key(drawn(5, 32))
	for _, a := range lengths() {
		for _, n := range []int{0, 1, 16, 17} {
			ad, text := drawn(uint64(a)+1, a), drawn(uint64(n)+1000, n)
			for _, s := range []suite.Suite{suite.Fast(nil), suite.Plain()} {
				buf := append(slices.Clone(text), make([]byte, 16)...)
				mustSeal(t, s, key, 78, ad, buf, n)
				mustBe(t, "what is sealed", buf, wanted(key, 78, ad, text))
			}
		}
	}
}

// P11.1: lengths that take three bytes to write.
func TestSealLong(t *testing.T) {
	key, ad, text := exampleKey(), drawn(6, 1<<16+3), drawn(7, 1<<17+21)
	want := wanted(key, 79, ad, text)
	buf := append(slices.Clone(text), make([]byte, 16)...)
	mustSeal(t, suite.Fast(nil), key, 79, ad, buf, len(text))
	mustBe(t, "what is sealed", buf, want)
}

// P11.1: nothing and nil are the same ad (W5).
func TestSealNothingForAd(t *testing.T) {
	for _, s := range engines() {
		first, second := drawn(8, 36), drawn(8, 36)
		mustSeal(t, s, exampleKey(), 1, nil, first, 20)
		mustSeal(t, s, exampleKey(), 1, []byte{}, second, 20)
		mustBe(t, "with an empty ad", second, first)
	}
}

// P11.1: where ad ends and where the text ends is in the tag: zeros behind ad are other bytes than zeros of the filling, and a byte that goes over from one to the other makes another tag.
func TestSealLengthsCount(t *testing.T) {
	seen := map[string]string{}
	for a := range 35 {
		for n := range 35 {
			buf := make([]byte, n+16)
			key := exampleKey()
			suite.Fast(nil).Stream(key, 1, nonceOf(5), buf[:n]) // so that all is zeros once it is sealed
			mustSeal(t, suite.Fast(nil), key, 5, make([]byte, a), buf, n)
			mustBe(t, "the sealed bytes", buf[:n], make([]byte, n))
			what := string(rune('A'+a)) + string(rune('A'+n))
			if other, ok := seen[string(buf[n:])]; ok {
				t.Fatalf("%s and %s have one tag", other, what)
			}
			seen[string(buf[n:])] = what
		}
	}
}

// P11.1: just these three calls, in that order.
func TestSealCalls(t *testing.T) {
	for _, n := range lengths() {
		for _, a := range lengths() {
			r, want := trace.New(), trace.New()
			key, ad, text := exampleKey(), drawn(9, a), drawn(10, n)
			buf := append(slices.Clone(text), make([]byte, 16)...)
			mustSeal(t, suite.Fast(r), key, 80, ad, buf, n)

			s, nonce := suite.Fast(want), nonceOf(80)
			var once api.Key
			s.Stream(key, 0, nonce, once[:])
			s.Stream(key, 1, nonce, text)
			tag := s.Tag(once, framed(ad, text)...)
			if !trace.Same(r, want) {
				t.Fatalf("Seal of %d bytes with an ad of %d logs %v, not %v", n, a, r.Runs(), want.Runs())
			}
			mustBe(t, "the tag", buf[n:], tag[:])
		}
	}
}

// P11.1: the trace of the document's example, written out.
func TestSealTrace(t *testing.T) {
	r := trace.New()
	mustSeal(t, suite.Fast(r), exampleKey(), 7, []byte("ship"), exampleBuf(), 15)
	want := trace.New()
	branch := func(is ...bool) {
		for _, x := range is {
			want.If(x)
		}
	}
	block := func() {
		want.Op(api.OpPlus)
		want.Op(api.OpTimes)
	}
	for range 2 { // the one-time key; 15 bytes
		branch(false, false, true)
		want.At(0)
		want.Op(api.OpOne)
	}
	for i, held := range []int{0, 4, 0, 15, 0} { // ship; 12 zeros; 15 bytes; 1 zero; the lengths
		branch(true)
		want.At(i)
		if i%2 == 0 {
			branch(false) // nothing is held
			if i == 4 {
				branch(true)
				block()
			}
			branch(false, i < 4)
		} else {
			branch(true)
			want.At(held)
			want.At(16 - held)
			branch(true)
			block()
			branch(false, false)
		}
	}
	branch(false, false) // no piece more, nothing held
	if !trace.Same(r, want) {
		t.Errorf("Seal logs %v, not %v", r.Runs(), want.Runs())
	}
}

// P11.1: the known answer that the standard of these two primitives gives (RFC 8439, A.5).
func TestSealKnown(t *testing.T) {
	key, _ := hex.DecodeString("1c9240a5eb55d38af333888604f6b5f0473917c1402b80099dca5cbc207075c0")
	ad, _ := hex.DecodeString("f33388860000000000004e91")
	text := "Internet-Drafts are draft documents valid for a maximum of six months and may be updated, replaced, or obsoleted by other documents at any time. It is inappropriate to use Internet-Drafts as reference material or to cite them other than as /\u201cwork in progress./\u201d"
	for _, s := range engines() {
		buf := append([]byte(text), make([]byte, 16)...)
		mustSeal(t, s, api.Key(key), 0x0807060504030201, ad, buf, len(text))
		if got := hex.EncodeToString(buf[:16]); got != "64a0861575861af460f062c79be643bd" {
			t.Errorf("begins with %s", got)
		}
		if got := hex.EncodeToString(buf[len(text):]); got != "eead9d67890cbb22392336fea1851f38" {
			t.Errorf("the tag is %s", got)
		}
	}
}
