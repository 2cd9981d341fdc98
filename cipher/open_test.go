package cipher_test

import (
	"slices"
	"testing"

	"pintle/aead"
	"pintle/api"
	"pintle/cipher"
	"pintle/suite"
	"pintle/trace"
)

// P13.3: with a key it is chapter 11's Open of the same key, number, ad, buf and n, with its events; and the number is one more.
func TestOpenIsThatOfChapter11(t *testing.T) {
	for _, n := range lengths() {
		for _, a := range lengths() {
			for k, number := range used() {
				key, ad := keys()[k%len(keys())], drawn(1, a)
				begun := append(sealed(t, key, number, ad, drawn(2, n)), drawn(3, n%3)...)
				r, want := trace.New(), trace.New()
				c, buf := keyed(suite.Fast(r), key, number), slices.Clone(begun)
				mustOpen(t, c, ad, buf, n+16)
				mustCount(t, "Open", c, number+1)
				left := slices.Clone(begun)
				aead.Open(suite.Fast(want), key, number, ad, left, n+16)
				mustBe(t, "what Open leaves", buf, left)
				mustBe(t, "what is opened", buf[:n], drawn(2, n))
				mustLog(t, "Open", r, want)
			}
		}
	}
}

// P13.3: on every engine, at every number up to the last but one.
func TestOpenOnEngines(t *testing.T) {
	for _, s := range engines() {
		for _, key := range keys() {
			for _, number := range used() {
				c, buf := keyed(s, key, number), sealed(t, key, number, drawn(4, 21), drawn(3, 44))
				mustOpen(t, c, drawn(4, 21), buf, 60)
				mustBe(t, "what is opened", buf[:44], drawn(3, 44))
				mustHave(t, "Open", c, key, number+1)
			}
		}
	}
}

// mustFail opens what is not authentic: what was to be opened is zeros, the tag stays, and so do key and number.
func mustFail(t *testing.T, c *cipher.State, ad, begun []byte) {
	t.Helper()
	number, buf, n := c.Nonce(), slices.Clone(begun), len(begun)-16
	m, err := c.Open(ad, buf, len(buf))
	mustRefuse(t, "Open of what is not authentic", m, err, api.ErrAuth)
	mustBe(t, "what is refused", buf[:n], make([]byte, n))
	mustBe(t, "the tag", buf[n:], begun[n:])
	mustCount(t, "refused", c, number)
}

// P13.3: another byte of the text or of the tag, another ad, number, key or length is ErrAuth; the number stays, and the right message is opened behind it.
func TestOpenRefusesOthers(t *testing.T) {
	ad, text := drawn(5, 13), drawn(6, 30)
	for _, s := range engines() {
		for _, number := range used() {
			c, right := keyed(s, exampleKey(), number), sealed(t, exampleKey(), number, ad, text)
			for _, i := range []int{0, 29, 30, 45} {
				other := slices.Clone(right)
				other[i] ^= 0x40
				mustFail(t, c, ad, other)
			}
			mustFail(t, c, nil, right)
			mustFail(t, c, append(slices.Clone(ad), 0), right)
			mustFail(t, c, ad, right[:45])
			mustFail(t, c, ad, right[:16])
			mustFail(t, c, ad, append(slices.Clone(right), 0))
			mustFail(t, c, ad, sealed(t, exampleKey(), number+1, ad, text))
			mustFail(t, c, ad, sealed(t, exampleKey(), number-1, ad, text))
			mustFail(t, c, ad, sealed(t, api.Key{}, number, ad, text))
			mustFail(t, c, ad, sealed(t, rekeyed(t, exampleKey()), number, ad, text))
			mustHave(t, "refused all along", c, exampleKey(), number)
			mustOpen(t, c, ad, right, 46)
			mustBe(t, "what is opened", right[:30], text)
			mustCount(t, "Open", c, number+1)
		}
	}
}

// P13.3: a refused Open logs what chapter 11's does, and nothing more; and it leaves the same bytes.
func TestOpenRefusedLogs(t *testing.T) {
	for _, n := range lengths() {
		for _, number := range used() {
			r, want := trace.New(), trace.New()
			c, buf, left := keyed(suite.Fast(r), exampleKey(), number), drawn(7, n+21), drawn(7, n+21)
			m, err := c.Open(drawn(8, n), buf, n+16)
			mustRefuse(t, "Open of any bytes", m, err, api.ErrAuth)
			aead.Open(suite.Fast(want), exampleKey(), number, drawn(8, n), left, n+16)
			mustBe(t, "what Open leaves", buf, left)
			mustLog(t, "a refused Open", r, want)
			mustCount(t, "refused", c, number)
		}
	}
}

// P13.3: messages one behind the other are opened under the numbers one behind the other; those that are refused in between take none.
func TestOpenCounts(t *testing.T) {
	for _, s := range engines() {
		for _, first := range []uint64{0, 250, 1<<32 - 3} {
			c := keyed(s, exampleKey(), first)
			for i := range uint64(8) {
				text := drawn(i, int(5*i))
				buf := sealed(t, exampleKey(), first+i, nil, text)
				mustFail(t, c, []byte{1}, buf)
				m, err := c.Open(nil, buf, 15)
				mustRefuse(t, "Open of 15 bytes", m, err, api.ErrShort)
				mustOpen(t, c, nil, buf, len(buf))
				mustBe(t, "what is opened", buf[:len(text)], text)
				mustCount(t, "opened", c, first+i+1)
			}
		}
	}
}

// P13.3: sealing and opening count one number, whatever the order.
func TestOneNumberForBoth(t *testing.T) {
	for _, s := range engines() {
		c := keyed(s, exampleKey(), 0)
		for i := uint64(0); i < 8; i += 2 {
			buf := drawn(i, 40)
			mustSeal(t, c, nil, buf, 24)
			mustBe(t, "what is sealed", buf, sealed(t, exampleKey(), i, nil, drawn(i, 24)))
			buf = sealed(t, exampleKey(), i+1, nil, drawn(i, 24))
			mustOpen(t, c, nil, buf, 40)
			mustCount(t, "one of each", c, i+2)
		}
	}
}
