package cipher_test

import (
	"testing"

	"pintle/aead"
	"pintle/api"
	"pintle/cipher"
	"pintle/suite"
	"pintle/trace"
)

// P13.4: without a key it is ErrKey, at any number; nothing is changed, and nothing logged.
func TestRekeyWithoutKey(t *testing.T) {
	r := trace.New()
	for _, s := range []suite.Suite{suite.Fast(r), suite.Plain(), {}} {
		for _, number := range numbers() {
			c := cipher.New(s)
			c.SetNonce(number)
			for range 2 {
				if err := c.Rekey(); err != api.ErrKey {
					t.Fatalf("Rekey: %v", err)
				}
			}
			mustLack(t, "Rekey without a key", c, number)
		}
	}
	if r.Total() != 0 {
		t.Errorf("logged: %v", r.Runs())
	}
}

// P13.4: the key is what chapter 11's Seal makes of 32 zeros at the last number; the number stays, whichever it is.
func TestRekey(t *testing.T) {
	for _, s := range engines() {
		for _, key := range keys() {
			for _, number := range numbers() {
				c := keyed(s, key, number)
				mustRekey(t, c)
				mustHave(t, "Rekey", c, rekeyed(t, key), number)
			}
		}
	}
}

// P13.4: each Rekey begins with the key that the one ahead of it has made.
func TestRekeyAgain(t *testing.T) {
	for _, s := range engines() {
		for _, key := range keys() {
			c, want := keyed(s, key, 3), key
			seen := map[api.Key]bool{want: true}
			for range 5 {
				mustRekey(t, c)
				want = rekeyed(t, want)
				if seen[want] {
					t.Fatal("a key comes again")
				}
				seen[want] = true
				mustHave(t, "Rekey once more", c, want, 3)
			}
		}
	}
}

// P13.4: just that one Seal is asked for: its events, each time, at whatever number.
func TestRekeyLogs(t *testing.T) {
	for _, number := range numbers() {
		for _, key := range keys() {
			r, want := trace.New(), trace.New()
			c := keyed(suite.Fast(r), key, number)
			for range 2 {
				mustRekey(t, c)
				aead.Seal(suite.Fast(want), key, api.LastNonce, nil, make([]byte, 48), 32)
				mustLog(t, "Rekey", r, want)
			}
		}
	}
}

// P13.4: a key that is given behind a Rekey is as it is given, and a Rekey of it begins with it.
func TestKeyBehindRekey(t *testing.T) {
	for _, s := range engines() {
		c := keyed(s, exampleKey(), 5)
		mustRekey(t, c)
		c.Key(exampleKey())
		mustHave(t, "Key behind Rekey", c, exampleKey(), 0)
		mustRekey(t, c)
		mustHave(t, "Rekey behind Key", c, rekeyed(t, exampleKey()), 0)
	}
}
