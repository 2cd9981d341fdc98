package cipher_test

import (
	"slices"
	"testing"

	"pintle/api"
	"pintle/cipher"
	"pintle/suite"
	"pintle/trace"
)

// pass seals a text at one State and opens it at the other: it comes back as it was, and their numbers are alike.
func pass(t *testing.T, from, to *cipher.State, ad, text []byte) {
	t.Helper()
	buf := append(slices.Clone(text), make([]byte, 16)...)
	mustSeal(t, from, ad, buf, len(text))
	mustOpen(t, to, ad, buf, len(buf))
	mustBe(t, "what comes back", buf[:len(text)], text)
	mustCount(t, "behind a message", to, from.Nonce())
}

// P13.5: what one State has sealed another one of the same key and number opens, one behind the other, on whatever engines, in both directions.
func TestTwoStates(t *testing.T) {
	for _, one := range engines() {
		for _, other := range engines() {
			for _, number := range []uint64{0, 1, 1<<32 - 5, 1 << 63, api.LastNonce - 12} {
				a, b := keyed(one, exampleKey(), number), keyed(other, exampleKey(), number)
				for i, n := range lengths() {
					if i%3 == 2 {
						a, b = b, a
					}
					pass(t, a, b, drawn(1, (n*7)%50), drawn(2, n))
				}
				mustCount(t, "behind all", a, number+12)
			}
		}
	}
}

// P13.5: rekeyed at the same places, also several times in a row, and at the end of the numbers.
func TestTwoStatesRekeyed(t *testing.T) {
	for _, one := range engines() {
		for _, other := range engines() {
			a, b := keyed(one, api.Key(drawn(3, 32)), 0), keyed(other, api.Key(drawn(3, 32)), 0)
			for i := range 4 {
				for range i {
					mustRekey(t, a)
				}
				for range i {
					mustRekey(t, b)
				}
				pass(t, a, b, drawn(4, 5), drawn(5, 20+i))
				pass(t, b, a, nil, drawn(6, i))
			}
			a.SetNonce(api.LastNonce)
			b.SetNonce(api.LastNonce)
			mustRekey(t, a)
			mustRekey(t, b)
			a.SetNonce(0)
			b.SetNonce(0)
			pass(t, a, b, nil, drawn(5, 33))
		}
	}
}

// P13.5: as often is what counts, not where: one has rekeyed ahead of some messages of its own, the other behind them.
func TestRekeyedAnywhere(t *testing.T) {
	for _, one := range engines() {
		for _, other := range engines() {
			a, b := keyed(one, exampleKey(), 0), keyed(other, exampleKey(), 0)
			mustRekey(t, a)
			mustRekey(t, a)
			mustSeal(t, a, nil, drawn(1, 40), 20)
			mustSeal(t, b, nil, drawn(1, 40), 20)
			mustRekey(t, b)
			b.SetNonce(1 << 40)
			mustRekey(t, b)
			b.SetNonce(1)
			pass(t, a, b, drawn(2, 3), drawn(3, 50))
		}
	}
}

// P13.5: a message that comes too early, or whose rekeying has not been followed, is refused, and is opened once the other side is as far.
func TestOutOfStep(t *testing.T) {
	for _, s := range engines() {
		a, b := keyed(suite.Plain(), exampleKey(), 0), keyed(s, exampleKey(), 0)
		first, second := drawn(1, 40), drawn(2, 40)
		mustSeal(t, a, nil, first, 24)
		mustRekey(t, a)
		mustSeal(t, a, nil, second, 24)
		mustFail(t, b, nil, second)
		mustOpen(t, b, nil, first, 40)
		mustFail(t, b, nil, second)
		mustRekey(t, b)
		mustOpen(t, b, nil, second, 40)
		mustBe(t, "the first", first[:24], drawn(1, 24))
		mustBe(t, "the second", second[:24], drawn(2, 24))
	}
}

// P13.6: behind the last number but one nothing is sealed or opened, however often it is asked for; the buffer and the number stay.
func TestEndOfNumbers(t *testing.T) {
	for _, s := range engines() {
		a, b := keyed(s, exampleKey(), api.LastNonce-2), keyed(suite.Plain(), exampleKey(), api.LastNonce-2)
		pass(t, a, b, nil, drawn(1, 20))
		pass(t, a, b, nil, drawn(2, 20))
		for _, c := range []*cipher.State{a, b} {
			for range 3 {
				for _, number := range []uint64{0, api.LastNonce - 1, api.LastNonce} {
					buf := sealed(t, exampleKey(), number, nil, drawn(3, 30))
					was := slices.Clone(buf)
					m, err := c.Seal(nil, buf, 30)
					mustRefuse(t, "Seal at the end", m, err, api.ErrNonce)
					m, err = c.Open(nil, buf, 46)
					mustRefuse(t, "Open at the end", m, err, api.ErrNonce)
					mustBe(t, "the buffer", buf, was)
					mustCount(t, "at the end", c, api.LastNonce)
				}
			}
			mustRekey(t, c)
			mustHave(t, "rekeyed at the end", c, rekeyed(t, exampleKey()), api.LastNonce)
			m, err := c.Seal(nil, make([]byte, 40), 20)
			mustRefuse(t, "Seal at the end, rekeyed", m, err, api.ErrNonce)
		}
	}
}

// P13.6: without a key nothing counts, and the end is none.
func TestEndWithoutKey(t *testing.T) {
	for _, s := range engines() {
		c := cipher.New(s)
		c.SetNonce(api.LastNonce)
		if m, err := c.Seal(nil, make([]byte, 40), 20); m != 20 || err != nil {
			t.Errorf("Seal: %d, %v", m, err)
		}
		if m, err := c.Open(nil, make([]byte, 40), 20); m != 20 || err != nil {
			t.Errorf("Open: %d, %v", m, err)
		}
		mustLack(t, "at the end", c, api.LastNonce)
	}
}

// P13.5: two engines leave the same bytes, errors and numbers at every step of a walk through all calls.
func TestEnginesAlike(t *testing.T) {
	r := trace.New()
	fast, plain := cipher.New(suite.Fast(r)), cipher.New(suite.Plain())
	choice := drawn(77, 4000)
	for i := 0; i+3 < len(choice); i += 4 {
		size, n := int(choice[i+1])%60, int(choice[i+2])%64-2
		var bufs [2][]byte
		var left [2]int
		var errs [2]error
		for k, c := range []*cipher.State{fast, plain} {
			bufs[k] = drawn(uint64(i), size)
			switch choice[i] % 8 {
			case 0:
				c.Key(api.Key(drawn(uint64(i), 32)))
			case 1:
				c.SetNonce(numbers()[int(choice[i+3])%len(numbers())])
			case 2:
				errs[k] = c.Rekey()
			case 3, 4, 5:
				left[k], errs[k] = c.Seal(drawn(9, n+2), bufs[k], n)
			default:
				left[k], errs[k] = c.Open(drawn(9, n+2), bufs[k], n)
			}
		}
		mustBe(t, "on the plain engine", bufs[1], bufs[0])
		if left[0] != left[1] || errs[0] != errs[1] || fast.Has() != plain.Has() || fast.Nonce() != plain.Nonce() {
			t.Fatalf("step %d: %d, %v, %d on the fast engine; %d, %v, %d on the plain one", i/4, left[0], errs[0], fast.Nonce(), left[1], errs[1], plain.Nonce())
		}
	}
	if r.Total() == 0 {
		t.Error("nothing was logged")
	}
}
