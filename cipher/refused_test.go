package cipher_test

import (
	"math"
	"testing"

	"pintle/api"
	"pintle/cipher"
	"pintle/suite"
	"pintle/trace"
)

// sizes are lengths of a buffer, those about one tag's and two tags' among them.
func sizes() []int { return []int{0, 1, 14, 15, 16, 17, 18, 19, 31, 32, 33, 40} }

// wrong are numbers of bytes that a buffer of that size does not have.
func wrong(size int) []int {
	return []int{math.MinInt, math.MinInt + 1, math.MinInt + 15, math.MinInt + 16, -1 << 32, -17, -16, -15, -2, -1, size + 1, size + 2, size + 15, size + 16, size + 17, 1 << 32, math.MaxInt - 16, math.MaxInt - 15, math.MaxInt - 1, math.MaxInt}
}

// asked is a call of Seal or of Open, by its method expression.
type asked func(c *cipher.State, ad, buf []byte, n int) (int, error)

// refusal asks for an error of a State with a key and that number: nothing is changed, and nothing logged.
func refusal(t *testing.T, what string, call asked, number uint64, size, n int, want error) {
	t.Helper()
	r := trace.New()
	for _, s := range []suite.Suite{suite.Fast(r), suite.Plain(), {}} {
		c := keyed(s, exampleKey(), number)
		all := drawn(1, size+30)
		m, err := call(c, drawn(2, 20), all[:size], n)
		mustRefuse(t, what, m, err, want)
		mustBe(t, what+": the buffer", all, drawn(1, size+30))
		mustCount(t, what, c, number)
		if r.Total() != 0 {
			t.Fatalf("%s: logged %v", what, r.Runs())
		}
	}
}

// P13.2, P13.3: a number of bytes that the buffer does not have is ErrArg, whatever else is wrong: no room, too few bytes, no number left.
func TestArgumentComesFirst(t *testing.T) {
	for _, size := range sizes() {
		for _, n := range wrong(size) {
			for _, number := range []uint64{0, 1, api.LastNonce - 1, api.LastNonce} {
				refusal(t, "Seal", (*cipher.State).Seal, number, size, n, api.ErrArg)
				refusal(t, "Open", (*cipher.State).Open, number, size, n, api.ErrArg)
			}
		}
	}
}

// P13.2: fewer than 16 bytes behind the first n are no room, at the last number too; with room the last number is ErrNonce.
func TestSealRefuses(t *testing.T) {
	for _, size := range sizes() {
		for n := 0; n <= size; n++ {
			if size-n < 16 {
				for _, number := range numbers() {
					refusal(t, "Seal without room", (*cipher.State).Seal, number, size, n, api.ErrRoom)
				}
				continue
			}
			refusal(t, "Seal at the last number", (*cipher.State).Seal, api.LastNonce, size, n, api.ErrNonce)
		}
	}
}

// P13.3: below 16 bytes are too few, at the last number too; with enough of them the last number is ErrNonce.
func TestOpenRefuses(t *testing.T) {
	for _, size := range sizes() {
		for n := 0; n <= size; n++ {
			if n < 16 {
				for _, number := range numbers() {
					refusal(t, "Open of too few", (*cipher.State).Open, number, size, n, api.ErrShort)
				}
				continue
			}
			refusal(t, "Open at the last number", (*cipher.State).Open, api.LastNonce, size, n, api.ErrNonce)
		}
	}
}

// P13.2, P13.3: without a key any number of bytes that the buffer has is answered as it is, at any number; room is not asked for, nor 16 bytes.
func TestWithoutKey(t *testing.T) {
	for _, call := range []asked{(*cipher.State).Seal, (*cipher.State).Open} {
		for _, size := range sizes() {
			for _, number := range numbers() {
				r := trace.New()
				for _, s := range []suite.Suite{suite.Fast(r), suite.Plain(), {}} {
					c := cipher.New(s)
					c.SetNonce(number)
					all := drawn(1, size+30)
					for n := 0; n <= size; n++ {
						if m, err := call(c, drawn(2, 20), all[:size], n); m != n || err != nil {
							t.Fatalf("%d of %d bytes: %d, %v", n, size, m, err)
						}
					}
					for _, n := range wrong(size) {
						m, err := call(c, drawn(2, 20), all[:size], n)
						mustRefuse(t, "beyond the buffer", m, err, api.ErrArg)
					}
					mustBe(t, "the buffer", all, drawn(1, size+30))
					mustLack(t, "asked without a key", c, number)
				}
				if r.Total() != 0 {
					t.Fatalf("logged: %v", r.Runs())
				}
			}
		}
	}
}

// P13.2, P13.3: a nil list is one without a byte.
func TestNilLists(t *testing.T) {
	for _, s := range engines() {
		bare, full := cipher.New(s), keyed(s, exampleKey(), 0)
		for _, buf := range [][]byte{nil, {}} {
			if m, err := bare.Seal(nil, buf, 0); m != 0 || err != nil {
				t.Errorf("Seal without a key: %d, %v", m, err)
			}
			if m, err := bare.Open(nil, buf, 0); m != 0 || err != nil {
				t.Errorf("Open without a key: %d, %v", m, err)
			}
			m, err := full.Seal(nil, buf, 0)
			mustRefuse(t, "Seal", m, err, api.ErrRoom)
			m, err = full.Open(nil, buf, 0)
			mustRefuse(t, "Open", m, err, api.ErrShort)
			for _, c := range []*cipher.State{bare, full} {
				m, err = c.Seal(nil, buf, 1)
				mustRefuse(t, "Seal of a byte that is not there", m, err, api.ErrArg)
				m, err = c.Open(nil, buf, 1)
				mustRefuse(t, "Open of a byte that is not there", m, err, api.ErrArg)
			}
		}
		first, second := make([]byte, 16), make([]byte, 16)
		mustSeal(t, full, nil, first, 0)
		full.SetNonce(0)
		mustSeal(t, full, []byte{}, second, 0)
		mustBe(t, "with an empty ad", second, first)
	}
}

// P13.2, P13.3: what was refused has left the State as it was: key and number.
func TestRefusedChangesNothing(t *testing.T) {
	for _, s := range engines() {
		for _, number := range numbers() {
			c := keyed(s, exampleKey(), number)
			for _, n := range []int{-1, 0, 15, 16, 17, 30, 31} {
				c.Seal(nil, drawn(1, 15), n)
				c.Open(nil, drawn(1, 30)[:15], n)
			}
			mustHave(t, "refused all along", c, exampleKey(), number)
		}
	}
}
