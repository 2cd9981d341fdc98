package cipher_test

import (
	"testing"

	"pintle/api"
	"pintle/cipher"
	"pintle/suite"
	"pintle/trace"
)

// P13.1: a new State has no key and the number 0; a key that it is given it has, with the number 0.
func TestNewAndKey(t *testing.T) {
	for _, s := range engines() {
		c := cipher.New(s)
		if c == nil {
			t.Fatal("New is nil")
		}
		mustLack(t, "New", c, 0)
		for _, key := range keys() {
			c = cipher.New(s)
			c.Key(key)
			mustHave(t, "Key", c, key, 0)
		}
	}
}

// P13.1: a key that comes behind some messages, or behind a Rekey, takes the place of the other, and the number is 0 again.
func TestSecondKey(t *testing.T) {
	for _, s := range engines() {
		c := keyed(s, exampleKey(), 0)
		for range 3 {
			mustSeal(t, c, nil, drawn(1, 40), 20)
		}
		mustCount(t, "behind three messages", c, 3)
		other := api.Key(drawn(2, 32))
		c.Key(other)
		mustHave(t, "the second key", c, other, 0)
		mustRekey(t, c)
		c.SetNonce(9)
		c.Key(other)
		mustHave(t, "the same key once more", c, other, 0)
		c.Key(api.Key{})
		mustHave(t, "a key of zeros", c, api.Key{}, 0)
	}
}

// P13.1: the number is what it is set to, with a key and without one, whatever it was.
func TestSetNonce(t *testing.T) {
	for _, s := range engines() {
		for _, first := range numbers() {
			for _, second := range numbers() {
				bare, full := cipher.New(s), keyed(s, exampleKey(), first)
				bare.SetNonce(first)
				mustCount(t, "without a key", bare, first)
				mustCount(t, "with a key", full, first)
				bare.SetNonce(second)
				full.SetNonce(second)
				mustLack(t, "set again", bare, second)
				mustHave(t, "set again", full, exampleKey(), second)
			}
		}
	}
}

// P13.1: a number that was set ahead of the key does not stay.
func TestKeyAtAnyNumber(t *testing.T) {
	for _, s := range engines() {
		for _, number := range numbers() {
			c := cipher.New(s)
			c.SetNonce(number)
			c.Key(exampleKey())
			mustHave(t, "Key without one ahead", c, exampleKey(), 0)
			c.SetNonce(number)
			c.Key(exampleKey())
			mustHave(t, "Key behind another", c, exampleKey(), 0)
		}
	}
}

// P13.1: none of these calls asks anything of the engine.
func TestNothingIsAsked(t *testing.T) {
	r := trace.New()
	c := cipher.New(suite.Fast(r))
	for range 2 {
		c.Has()
		c.Nonce()
		c.SetNonce(api.LastNonce)
		c.Key(exampleKey())
	}
	if r.Total() != 0 {
		t.Errorf("logged: %v", r.Runs())
	}
}

// Chapter 13: a zero State is what New of the zero Suite is.
func TestZeroState(t *testing.T) {
	var bare cipher.State
	mustLack(t, "a zero State", &bare, 0)
	if n, err := bare.Seal(nil, []byte("abc"), 3); n != 3 || err != nil {
		t.Errorf("Seal without a key: %d, %v", n, err)
	}
	if n, err := bare.Open(nil, []byte("abc"), 3); n != 3 || err != nil {
		t.Errorf("Open without a key: %d, %v", n, err)
	}
	bare.SetNonce(6)
	mustLack(t, "a zero State", &bare, 6)

	var zero cipher.State
	made := cipher.New(suite.Suite{})
	for _, c := range []*cipher.State{&zero, made} {
		c.Key(exampleKey())
		mustHave(t, "with a key", c, exampleKey(), 0)
		mustRekey(t, c)
		c.SetNonce(7)
		mustHave(t, "rekeyed", c, rekeyed(t, exampleKey()), 7)
	}
	buf := drawn(1, 50)
	mustSeal(t, &zero, drawn(2, 9), buf, 34)
	mustOpen(t, made, drawn(2, 9), buf, 50)
	mustBe(t, "opened by the other", buf[:34], drawn(1, 34))
}

// W8: to a nil State nothing happens; what answers an error answers ErrArg, all else its zero value.
func TestNilState(t *testing.T) {
	var c *cipher.State
	for range 2 {
		if c.Has() || c.Nonce() != 0 {
			t.Errorf("%v, %d", c.Has(), c.Nonce())
		}
		for _, size := range []int{0, 3, 16, 40} {
			for _, n := range []int{-1, 0, 3, 16, 40, 41} {
				buf := drawn(1, size)
				m, err := c.Seal(nil, buf, n)
				mustRefuse(t, "Seal", m, err, api.ErrArg)
				m, err = c.Open(nil, buf, n)
				mustRefuse(t, "Open", m, err, api.ErrArg)
				mustBe(t, "the buffer", buf, drawn(1, size))
			}
		}
		if err := c.Rekey(); err != api.ErrArg {
			t.Errorf("Rekey: %v", err)
		}
		c.Key(exampleKey())
		c.SetNonce(4)
	}
}
