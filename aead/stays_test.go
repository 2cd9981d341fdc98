package aead_test

import (
	"bytes"
	"math"
	"slices"
	"testing"

	"pintle/aead"
	"pintle/api"
	"pintle/suite"
	"pintle/trace"
)

// margin is more than the stream turns at one time.
const margin = 300

// outcome is a call, what it answers and what it leaves of the buffer.
type outcome struct {
	what string
	call func(s suite.Suite, ad, buf []byte) (int, error)
	size int // of the buffer that it is handed
	want error
	left []byte // what the call leaves of the buffer; nil: it stays
}

// text and number that the outcomes are of.
func outcomeText() []byte { return drawn(20, 77) }
func outcomeAd() []byte   { return drawn(21, 19) }

const outcomeNumber = 9

// begunBuf is what each outcome's buffer begins with: a sealed text, and any bytes.
func begunBuf(size int) []byte {
	return append(wanted(exampleKey(), outcomeNumber, outcomeAd(), outcomeText()), drawn(22, size)...)[:size]
}

func outcomes() []outcome {
	seal := func(n int) func(suite.Suite, []byte, []byte) (int, error) {
		return func(s suite.Suite, ad, buf []byte) (int, error) {
			return aead.Seal(s, exampleKey(), outcomeNumber, ad, buf, n)
		}
	}
	open := func(number uint64, n int) func(suite.Suite, []byte, []byte) (int, error) {
		return func(s suite.Suite, ad, buf []byte) (int, error) {
			return aead.Open(s, exampleKey(), number, ad, buf, n)
		}
	}
	behind := func(n, size int, ahead []byte) []byte { return append(slices.Clone(ahead), begunBuf(size)[n:]...) }
	twice := wanted(exampleKey(), outcomeNumber, outcomeAd(), begunBuf(200)[:100])
	return []outcome{
		{"Seal", seal(100), 200, nil, behind(116, 200, twice)},
		{"Seal to the end", seal(100), 116, nil, twice},
		{"Seal of nothing", seal(0), 50, nil, behind(16, 50, wanted(exampleKey(), outcomeNumber, outcomeAd(), nil))},
		{"Open", open(outcomeNumber, 93), 150, nil, behind(77, 150, outcomeText())},
		{"Open to the end", open(outcomeNumber, 93), 93, nil, behind(77, 93, outcomeText())},
		{"Open under another number", open(outcomeNumber+1, 93), 150, api.ErrAuth, behind(77, 150, make([]byte, 77))},
		{"Open of another length", open(outcomeNumber, 120), 150, api.ErrAuth, behind(104, 150, make([]byte, 104))},
		{"Open of 16 bytes", open(outcomeNumber, 16), 150, api.ErrAuth, nil},
		{"Open to the end, refused", open(outcomeNumber, 150), 150, api.ErrAuth, behind(134, 150, make([]byte, 134))},
		{"Seal of -1", seal(-1), 150, api.ErrArg, nil},
		{"Seal of the least number", seal(math.MinInt), 150, api.ErrArg, nil},
		{"Seal of the greatest number", seal(math.MaxInt), 150, api.ErrArg, nil},
		{"Seal of too many", seal(151), 150, api.ErrArg, nil},
		{"Seal with 15 bytes of room", seal(135), 150, api.ErrRoom, nil},
		{"Seal with no room", seal(150), 150, api.ErrRoom, nil},
		{"Open of -1", open(outcomeNumber, -1), 150, api.ErrArg, nil},
		{"Open of the least number", open(outcomeNumber, math.MinInt), 150, api.ErrArg, nil},
		{"Open of the greatest number", open(outcomeNumber, math.MaxInt), 150, api.ErrArg, nil},
		{"Open of too many", open(outcomeNumber, 94), 93, api.ErrArg, nil},
		{"Open of nothing", open(outcomeNumber, 0), 150, api.ErrShort, nil},
		{"Open of 15 bytes", open(outcomeNumber, 15), 150, api.ErrShort, nil},
	}
}

// P11.3: for every outcome just the bytes that are named change: none ahead of buf, none of its own, none behind its end; and ad stays, with the room behind it.
func TestAllElseStays(t *testing.T) {
	for _, s := range engines() {
		for _, o := range outcomes() {
			ad := append(outcomeAd(), drawn(23, 64)...)
			ahead, behind := drawn(24, margin), drawn(25, margin)
			all := slices.Concat(ahead, begunBuf(o.size), behind)
			left := o.left
			if left == nil {
				left = begunBuf(o.size)
			}
			_, err := o.call(s, ad[:19], all[margin:margin+o.size])
			if err != o.want {
				t.Fatalf("%s: %v", o.what, err)
			}
			mustBe(t, o.what, all, slices.Concat(ahead, left, behind))
			mustBe(t, o.what+": ad", ad, append(outcomeAd(), drawn(23, 64)...))
		}
	}
}

// P11.3: where ErrArg, ErrRoom or ErrShort is answered, nothing is logged; else something is.
func TestRefusedAsksForNothing(t *testing.T) {
	for _, o := range outcomes() {
		r := trace.New()
		o.call(suite.Fast(r), outcomeAd(), begunBuf(o.size))
		if asked, early := r.Total() > 0, o.want != nil && o.want != api.ErrAuth; asked == early {
			t.Errorf("%s: %d events", o.what, r.Total())
		}
	}
}

// P11.3: what lies in ff or in zeros stays too.
func TestFullAndEmptyStay(t *testing.T) {
	for _, b := range []byte{0, 0xff} {
		for _, s := range engines() {
			for _, n := range fewLengths() {
				all := bytes.Repeat([]byte{b}, margin+n+16+margin)
				want := slices.Clone(all)
				copy(want[margin:], wanted(exampleKey(), 3, nil, want[margin:margin+n]))
				mustSeal(t, s, exampleKey(), 3, nil, all[margin:margin+n+16+20], n)
				mustBe(t, "sealed in the midst of a list", all, want)
				mustOpen(t, s, exampleKey(), 3, nil, all[margin:margin+n+16+20], n+16)
				copy(want[margin:margin+n], bytes.Repeat([]byte{b}, n))
				mustBe(t, "opened in the midst of a list", all, want)
			}
		}
	}
}

// W6: nothing is kept of a call: its lists, written over behind it, make no difference to the next one, and an earlier buffer is not touched again.
func TestNothingIsKept(t *testing.T) {
	for _, s := range engines() {
		ad, first := drawn(30, 40), drawn(31, 66)
		mustSeal(t, s, exampleKey(), 1, ad, first, 50)
		sealed := slices.Clone(first)
		clear(ad)
		second := drawn(31, 66)
		mustSeal(t, s, exampleKey(), 1, drawn(30, 40), second, 50)
		mustBe(t, "sealed again", second, sealed)
		clear(second)
		mustOpen(t, s, exampleKey(), 1, drawn(30, 40), first, 66)
		mustBe(t, "a buffer of an earlier call", second, make([]byte, 66))
		mustBe(t, "what is opened", first[:50], drawn(31, 66)[:50])
	}
}
