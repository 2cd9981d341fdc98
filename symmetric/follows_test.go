package symmetric_test

import (
	"slices"
	"testing"

	"pintle/suite"
	"pintle/symmetric"
)

// both does the same to two States.
func both(y, z *symmetric.State, call func(y *symmetric.State)) {
	call(y)
	call(z)
}

// pass seals a text at one State and opens it at the other: it comes back as it was, and their hashes are the same again.
func pass(t *testing.T, from, to *symmetric.State, text []byte) {
	t.Helper()
	buf := append(slices.Clone(text), make([]byte, 16)...)
	n, err := from.Seal(buf, len(text))
	if err != nil {
		t.Fatalf("Seal: %v", err)
	}
	m, err := to.Open(buf, n)
	mustAnswer(t, "Open", m, err, len(text), nil)
	mustBe(t, "what comes back", buf[:m], text)
	mustMatch(t, from, to)
}

// mustMatch asks for two States of one hash, with a key or without one.
func mustMatch(t *testing.T, y, z *symmetric.State) {
	t.Helper()
	if y.Hash() != z.Hash() || y.Has() != z.Has() {
		t.Fatalf("%x, %v; the other %x, %v", y.Hash(), y.Has(), z.Hash(), z.Has())
	}
}

// mustSplitAlike asks for ciphers that open what the other's have sealed, each its own.
func mustSplitAlike(t *testing.T, y, z *symmetric.State) {
	t.Helper()
	a, b := y.Split()
	c, d := z.Split()
	for i, text := range [][]byte{nil, drawn(1, 5), drawn(2, 100)} {
		one, other := append(slices.Clone(text), make([]byte, 16)...), append(slices.Clone(text), make([]byte, 16)...)
		a.Seal(nil, one, len(text))
		b.Seal(nil, other, len(text))
		n, err := c.Open(nil, one, len(one))
		mustAnswer(t, "Open by the first", n, err, len(text), nil)
		n, err = d.Open(nil, other, len(other))
		mustAnswer(t, "Open by the second", n, err, len(text), nil)
		mustBe(t, "what the first opens", one[:n], text)
		mustBe(t, "what the second opens", other[:n], text)
		if c.Nonce() != uint64(i+1) || d.Nonce() != uint64(i+1) {
			t.Fatalf("%d, %d", c.Nonce(), d.Nonce())
		}
	}
}

// P14.9: two States to which the same was done, on whatever engines: one hash, sealed alike, split alike.
func TestSameDone(t *testing.T) {
	for _, s := range engines() {
		for _, other := range engines() {
			for _, n := range []int{0, 32, 33, 80} {
				y, z := symmetric.New(s, drawn(1, n)), symmetric.New(other, drawn(1, n))
				for i := range 12 {
					in := drawn(uint64(i), n+i)
					both(y, z, func(y *symmetric.State) {
						switch i % 4 {
						case 0:
							y.MixHash(in)
						case 1:
							y.MixKey(in)
						case 2:
							y.MixKeyAndHash(in)
						}
					})
					one, two := append(slices.Clone(in), make([]byte, 16)...), append(slices.Clone(in), make([]byte, 16)...)
					size, err := y.Seal(one, len(in))
					size2, err2 := z.Seal(two, len(in))
					mustAnswer(t, "Seal", size, err, size2, err2)
					mustBe(t, "sealed", one, two)
					mustMatch(t, y, z)
					mustSplitAlike(t, y, z)
				}
			}
		}
	}
}

// P14.9: what one has sealed the other opens, in both directions, without a key and with one, and behind it their hashes are the same again.
func TestPass(t *testing.T) {
	for _, s := range engines() {
		for _, other := range engines() {
			y, z := symmetric.New(s, []byte("keel")), symmetric.New(other, []byte("keel"))
			for i, n := range lengths() {
				if i%4 == 3 {
					both(y, z, func(y *symmetric.State) { y.MixKey(drawn(uint64(i), 32)) })
				}
				if i%6 == 5 {
					both(y, z, func(y *symmetric.State) { y.MixKeyAndHash(drawn(uint64(i), 32)) })
				}
				pass(t, y, z, drawn(uint64(i), n))
				pass(t, z, y, drawn(uint64(i+40), n))
				mustSplitAlike(t, y, z)
			}
		}
	}
}

// P14.9: without a key no byte of the buffer is changed by either, and each takes the n bytes into the hash: so Seal and Open do the same.
func TestWithoutKeyAlike(t *testing.T) {
	for _, s := range engines() {
		for _, other := range engines() {
			y, z := symmetric.New(s, []byte("keel")), symmetric.New(other, []byte("keel"))
			hashed := symmetric.New(suite.Plain(), []byte("keel"))
			for _, n := range lengths() {
				buf := drawn(uint64(n), n+5)
				got, err := y.Seal(buf, n)
				mustAnswer(t, "Seal", got, err, n, nil)
				got, err = z.Open(buf, n)
				mustAnswer(t, "Open", got, err, n, nil)
				mustBe(t, "the buffer", buf, drawn(uint64(n), n+5))
				hashed.MixHash(buf[:n])
				mustMatch(t, y, z)
				mustMatch(t, y, hashed)
			}
		}
	}
}

// P14.9: a walk through all calls, wrong ones too, on both engines: answers, errors, bytes and hashes are alike at every step.
func TestEnginesAlike(t *testing.T) {
	for seed := range uint64(4) {
		choice := drawn(70+seed, 1200)
		fast, m := pair(suite.Fast(nil), choice[:seed*20])
		plain := symmetric.New(suite.Plain(), choice[:seed*20])
		for i := 0; i+3 < len(choice); i += 3 {
			what, size, n := choice[i]%8, int(choice[i+1])%60, int(choice[i+2])%64-2
			var bufs [3][]byte
			var left [3]int
			var errs [3]error
			for k, on := range []stepper{stateStepper(fast), stateStepper(plain), modelStepper(m)} {
				bufs[k] = drawn(uint64(i), size)
				left[k], errs[k] = on.step(what, bufs[k], n)
			}
			mustAnswer(t, "on the plain engine", left[1], errs[1], left[0], errs[0])
			mustAnswer(t, "by the formulas", left[2], errs[2], left[0], errs[0])
			mustBe(t, "on the plain engine", bufs[1], bufs[0])
			mustBe(t, "by the formulas", bufs[2], bufs[0])
			mustMatch(t, fast, plain)
			mustHash(t, "by the formulas", fast, m)
		}
		mustSplitAlike(t, fast, plain)
		mustHold(t, "behind all", fast, m)
	}
}

// stepper is all that can be done to a State, or to what it is held against.
type stepper struct {
	mixHash, mixKey, mixKeyAndHash func(in []byte)
	seal, open                     func(buf []byte, n int) (int, error)
}

func stateStepper(y *symmetric.State) stepper {
	return stepper{y.MixHash, y.MixKey, y.MixKeyAndHash, y.Seal, y.Open}
}

func modelStepper(m *model) stepper {
	return stepper{m.mixHash, m.mixKey, m.mixKeyAndHash, m.seal, m.open}
}

// step does one thing of eight; messages are more frequent than what is mixed.
func (s stepper) step(what byte, buf []byte, n int) (int, error) {
	switch what {
	case 0:
		s.mixHash(buf)
	case 1:
		s.mixKey(buf)
	case 2:
		s.mixKeyAndHash(buf)
	case 3, 4, 5:
		return s.seal(buf, n)
	default:
		return s.open(buf, n)
	}
	return 0, nil
}
