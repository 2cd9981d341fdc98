package aead_test

import (
	"math"
	"slices"
	"testing"

	"pintle/aead"
	"pintle/api"
	"pintle/suite"
	"pintle/trace"
)

// P11.4: any number is a nonce, the last one too; each has all its eight bytes in the stream and in the tag.
func TestNumbers(t *testing.T) {
	numbers := []uint64{0, 1, 255, 256, math.MaxUint32, math.MaxUint32 + 1, 1 << 63, 0x0102030405060708, math.MaxUint64 - 1, api.LastNonce}
	for _, s := range engines() {
		seen := map[string]uint64{}
		for _, number := range numbers {
			text := drawn(1, 32)
			buf := append(slices.Clone(text), make([]byte, 16)...)
			mustSeal(t, s, exampleKey(), number, nil, buf, 32)
			mustBe(t, "what is sealed", buf, wanted(exampleKey(), number, nil, text))
			if other, ok := seen[string(buf[:32])]; ok {
				t.Errorf("%d and %d turn alike", other, number)
			}
			seen[string(buf[:32])] = number
			mustOpen(t, s, exampleKey(), number, nil, buf, 48)
			mustBe(t, "what is opened", buf[:32], text)
		}
	}
}

// P11.4: a number that is refused by its tag is refused as any other, the last one too.
func TestLastNumberRefused(t *testing.T) {
	for _, s := range engines() {
		for _, number := range []uint64{0, 1, math.MaxUint64 - 1, api.LastNonce} {
			mustFail(t, s, exampleKey(), number, nil, wanted(exampleKey(), number+1, nil, drawn(2, 40)))
		}
	}
}

// P11.5: what one engine has sealed each of them opens, and all leave the same bytes.
func TestEnginesAlike(t *testing.T) {
	for _, n := range fewLengths() {
		for _, a := range fewLengths() {
			key, ad, text := api.Key(drawn(uint64(n), 32)), drawn(3, a), drawn(4, n+16+9)
			var first []byte
			for i, s := range engines() {
				buf := slices.Clone(text)
				mustSeal(t, s, key, 12, ad, buf, n)
				if i == 0 {
					first = buf
				}
				mustBe(t, "sealed on another engine", buf, first)
				for _, other := range engines() {
					opened := slices.Clone(buf)
					mustOpen(t, other, key, 12, ad, opened, n+16)
					mustBe(t, "opened on another engine", opened, slices.Concat(text[:n], buf[n:]))
				}
			}
		}
	}
}

// P11.5: what is refused leaves the same bytes on all engines, and the same error.
func TestEnginesRefuseAlike(t *testing.T) {
	for size := range 40 {
		for n := -1; n <= size+1; n++ {
			var buf [2][4][]byte
			var errs [2][4]error
			for i, s := range engines() {
				buf[0][i], buf[1][i] = drawn(5, size), drawn(5, size)
				_, errs[0][i] = aead.Seal(s, exampleKey(), 12, nil, buf[0][i], n)
				_, errs[1][i] = aead.Open(s, exampleKey(), 12, nil, buf[1][i], n)
			}
			for call := range 2 {
				for i := range 4 {
					mustBe(t, "on another engine", buf[call][i], buf[call][0])
					if errs[call][i] != errs[call][0] {
						t.Fatalf("%v on one engine, %v on another", errs[call][0], errs[call][i])
					}
				}
			}
		}
	}
}

// P11.6: two calls that are alike in their lengths, and in whether Open is refused, leave one trace.
func TestTraceHangsOnLengths(t *testing.T) {
	for _, n := range lengths() {
		for _, a := range fewLengths() {
			var seal, right, wrong [2]*trace.Recorder
			for i := range 2 {
				seal[i], right[i], wrong[i] = trace.New(), trace.New(), trace.New()
				key, number := api.Key(drawn(uint64(i), 32)), uint64(i)*(1<<62+99)
				ad := drawn(uint64(i)+7, a)
				buf := drawn(uint64(i)+9, n+16+5*i) // what is behind the tag makes no difference
				mustSeal(t, suite.Fast(seal[i]), key, number, ad, buf, n)
				refused := slices.Clone(buf)
				mustOpen(t, suite.Fast(right[i]), key, number, ad, buf, n+16)
				refused[n+15-7*i] ^= 1 << i
				m, err := aead.Open(suite.Fast(wrong[i]), key, number, ad, refused, n+16)
				mustRefuse(t, "Open of another tag", m, err, api.ErrAuth)
			}
			if !trace.Same(seal[0], seal[1]) || !trace.Same(right[0], right[1]) || !trace.Same(wrong[0], wrong[1]) {
				t.Fatalf("%d bytes with an ad of %d: two traces", n, a)
			}
		}
	}
}

// P11.6: an Open that is refused, for whatever reason, leaves the trace of any that is refused.
func TestTraceOfRefusals(t *testing.T) {
	sealed := wanted(exampleKey(), 7, drawn(1, 20), drawn(2, 100))
	want := trace.New()
	aead.Open(suite.Fast(want), exampleKey(), 8, drawn(1, 20), slices.Clone(sealed), 116)
	for i := range sealed {
		r := trace.New()
		other := slices.Clone(sealed)
		other[i] ^= 0x10
		aead.Open(suite.Fast(r), exampleKey(), 7, drawn(1, 20), other, 116)
		if !trace.Same(r, want) {
			t.Fatalf("the byte %d is another one, and so is the trace", i)
		}
	}
	r := trace.New()
	aead.Open(suite.Fast(r), api.Key{}, 7, make([]byte, 20), make([]byte, 116), 116)
	if !trace.Same(r, want) {
		t.Error("zeros are refused with another trace")
	}
}

// P11.6: a refused Open of n + 16 bytes beside a Seal of n: the one-time key, the same tag; the stream is Seal's alone, and the If of the Check Open's alone.
func TestTraceOfOpenBesideSeal(t *testing.T) {
	for _, n := range lengths() {
		for _, a := range fewLengths() {
			seal, open, turned, once := trace.New(), trace.New(), trace.New(), trace.New()
			mustSeal(t, suite.Fast(seal), exampleKey(), 7, drawn(1, a), drawn(2, n+16), n)
			aead.Open(suite.Fast(open), exampleKey(), 7, drawn(1, a), drawn(2, n+16), n+16)
			suite.Fast(once).Stream(exampleKey(), 0, nonceOf(7), make([]byte, 32))
			suite.Fast(turned).Stream(exampleKey(), 1, nonceOf(7), make([]byte, n))

			sealed, opened := seal.Events(), open.Events()
			k, m := once.Total(), turned.Total()
			if !slices.Equal(sealed[:k], once.Events()) || !slices.Equal(sealed[k:k+m], turned.Events()) {
				t.Fatalf("Seal of %d bytes does not begin with its two streams", n)
			}
			want := slices.Concat(sealed[:k], sealed[k+m:], []api.Event{{Kind: api.EventIf, Value: 0}})
			if !slices.Equal(opened, want) {
				t.Fatalf("a refused Open of %d bytes: %v, not %v", n+16, opened, want)
			}
		}
	}
}
