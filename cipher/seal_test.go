package cipher_test

import (
	"encoding/hex"
	"slices"
	"testing"

	"pintle/aead"
	"pintle/api"
	"pintle/cipher"
	"pintle/suite"
	"pintle/trace"
)

// P13.1 to P13.4: the examples of the document.
func TestExamples(t *testing.T) {
	for _, s := range engines() {
		c, abc := cipher.New(s), []byte("abc")
		mustLack(t, "New", c, 0)
		if n, err := c.Seal(nil, abc, 3); n != 3 || err != nil {
			t.Errorf("Seal of abc: %d, %v", n, err)
		}
		n, err := c.Seal(nil, abc, 4)
		mustRefuse(t, "Seal of 4 bytes", n, err, api.ErrArg)
		if n, err := c.Open(nil, abc, 3); n != 3 || err != nil {
			t.Errorf("Open of abc: %d, %v", n, err)
		}
		mustBe(t, "abc", abc, []byte("abc"))

		c.Key(exampleKey())
		n, err = c.Seal(nil, make([]byte, 18), 3)
		mustRefuse(t, "Seal in 18 bytes", n, err, api.ErrRoom)
		mustSeal(t, c, nil, make([]byte, 19), 3)
		mustCount(t, "Seal in 19 bytes", c, 1)

		c.SetNonce(api.LastNonce)
		n, err = c.Seal(nil, make([]byte, 19), 3)
		mustRefuse(t, "Seal at the end", n, err, api.ErrNonce)
		n, err = c.Seal(nil, make([]byte, 18), 3)
		mustRefuse(t, "Seal at the end, without room", n, err, api.ErrRoom)
		mustRekey(t, c)
		mustCount(t, "Rekey at the end", c, api.LastNonce)
		n, err = c.Open(nil, make([]byte, 15), 15)
		mustRefuse(t, "Open of 15 bytes", n, err, api.ErrShort)
	}
}

// P13.2: the bytes that chapter 11 writes down for the number 7.
func TestSealKnown(t *testing.T) {
	for _, s := range engines() {
		c := keyed(s, exampleKey(), 7)
		buf := append([]byte("keel and rudder"), make([]byte, 16)...)
		mustSeal(t, c, []byte("ship"), buf, 15)
		if got := hex.EncodeToString(buf); got != "9a6ae124028914ed42443b5798ed620062cd3028dbe1d2c46b9bd605ed1c0e" {
			t.Errorf("sealed: %s", got)
		}
		mustCount(t, "Seal", c, 8)
	}
}

// P13.2: with a key it is chapter 11's Seal of the same key, number, ad, buf and n, with its events; and the number is one more.
func TestSealIsThatOfChapter11(t *testing.T) {
	for _, n := range lengths() {
		for _, a := range lengths() {
			for k, number := range used() {
				key, ad, text := keys()[k%len(keys())], drawn(1, a), drawn(2, n+16+n%3)
				r, want := trace.New(), trace.New()
				buf := slices.Clone(text)
				c := keyed(suite.Fast(r), key, number)
				mustSeal(t, c, ad, buf, n)
				mustCount(t, "Seal", c, number+1)
				left := slices.Clone(text)
				aead.Seal(suite.Fast(want), key, number, ad, left, n)
				mustBe(t, "what is sealed", buf, left)
				mustLog(t, "Seal", r, want)
			}
		}
	}
}

// P13.2: on every engine, at every number up to the last but one.
func TestSealOnEngines(t *testing.T) {
	for _, s := range engines() {
		for _, key := range keys() {
			for _, number := range used() {
				c := keyed(s, key, number)
				buf := drawn(3, 60)
				mustSeal(t, c, drawn(4, 21), buf, 44)
				mustBe(t, "what is sealed", buf, sealed(t, key, number, drawn(4, 21), drawn(3, 44)))
				mustHave(t, "Seal", c, key, number+1)
			}
		}
	}
}

// P13.2: messages one behind the other have the numbers one behind the other; those that are refused in between take none.
func TestSealCounts(t *testing.T) {
	for _, s := range engines() {
		for _, first := range []uint64{0, 250, 1<<32 - 3} {
			c := keyed(s, exampleKey(), first)
			for i := range uint64(8) {
				text := drawn(i, int(5*i))
				buf := append(slices.Clone(text), make([]byte, 16)...)
				m, err := c.Seal(nil, buf[:len(text)], len(text))
				mustRefuse(t, "Seal without room", m, err, api.ErrRoom)
				mustCount(t, "refused", c, first+i)
				mustSeal(t, c, nil, buf, len(text))
				mustBe(t, "what is sealed", buf, sealed(t, exampleKey(), first+i, nil, text))
				mustCount(t, "sealed", c, first+i+1)
			}
		}
	}
}
