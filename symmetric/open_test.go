package symmetric_test

import (
	"slices"
	"testing"

	"pintle/aead"
	"pintle/api"
	"pintle/suite"
	"pintle/symmetric"
)

// P14.7: the document's examples of Open.
func TestExamplesOfOpen(t *testing.T) {
	for _, s := range engines() {
		for _, other := range engines() {
			y, _ := keyedPair(s)
			z, _ := keyedPair(other)
			buf := append([]byte("abc"), make([]byte, 16)...)
			n, err := y.Seal(buf, 3)
			mustAnswer(t, "Seal", n, err, 19, nil)
			n, err = z.Open(buf, 19)
			mustAnswer(t, "Open", n, err, 3, nil)
			mustBe(t, "what is opened", buf[:3], []byte("abc"))
			was := z.Hash()
			if was != y.Hash() {
				t.Errorf("%x, not %x", was, y.Hash())
			}
			n, err = z.Open(make([]byte, 19), 19)
			mustAnswer(t, "Open of 19 noughts", n, err, 0, api.ErrAuth)
			n, err = z.Open(make([]byte, 15), 15)
			mustAnswer(t, "Open of 15 bytes", n, err, 0, api.ErrShort)
			if z.Hash() != was {
				t.Errorf("%x, not %x", z.Hash(), was)
			}
		}
	}
}

// P14.7: without a key the bytes stay, n is answered, and the hash takes the n bytes, no others.
func TestOpenWithoutKey(t *testing.T) {
	for _, s := range engines() {
		for _, size := range sizes() {
			y, m := pair(s, []byte("keel"))
			for n := 0; n <= size; n++ {
				buf := drawn(uint64(n), size)
				want := suite.Plain().Hash(m.hash[:], buf[:n])
				got, err := y.Open(buf, n)
				mustAnswer(t, "Open without a key", got, err, n, nil)
				mustBe(t, "the buffer", buf, drawn(uint64(n), size))
				if y.Hash() != want || y.Has() {
					t.Fatalf("%d of %d bytes: %x, %v, not %x", n, size, y.Hash(), y.Has(), want)
				}
				m.open(buf, n)
			}
			mustHold(t, "Open without a key", y, m)
		}
	}
}

// sealedFor is a text as that State will open it next, by chapter 11.
func sealedFor(t *testing.T, m *model, text []byte) []byte {
	t.Helper()
	buf := append(slices.Clone(text), make([]byte, 16)...)
	n, err := aead.Seal(suite.Plain(), m.key, m.number, m.hash[:], buf, len(text))
	mustAnswer(t, "aead.Seal", n, err, len(buf), nil)
	return buf
}

// P14.7: with a key it is the cipher's Open with the hash for ad; the hash takes the n bytes as they were ahead of it, the tag among them.
func TestOpenWithKey(t *testing.T) {
	for _, s := range engines() {
		for _, n := range lengths() {
			y, m := keyedPair(s)
			for i := range 3 {
				text := drawn(uint64(i), n)
				sealed := sealedFor(t, m, text)
				hash := suite.Plain().Hash(m.hash[:], sealed)
				buf := append(slices.Clone(sealed), drawn(9, i)...)
				got, err := y.Open(buf, n+16)
				mustAnswer(t, "Open with a key", got, err, n, nil)
				mustBe(t, "what is opened", buf, slices.Concat(text, sealed[n:], drawn(9, i)))
				if y.Hash() != hash {
					t.Fatalf("%d bytes: %x, not %x", n, y.Hash(), hash)
				}
				got, err = m.open(sealed, n+16)
				mustAnswer(t, "by the formula", got, err, n, nil)
			}
			mustHold(t, "Open with a key", y, m)
		}
	}
}

// refusedOpen asks for an error: hash, key and what Split makes stay. Of the buffer zeros stand in the place of what was to be opened, if it was ErrAuth; all else stays.
func refusedOpen(t *testing.T, y *symmetric.State, m *model, buf []byte, n int, want error) {
	t.Helper()
	all := append(slices.Clone(buf), drawn(1, 40)...)
	left := slices.Clone(all)
	if want == api.ErrAuth {
		clear(left[:n-16])
	}
	got, err := y.Open(all[:len(buf)], n)
	mustAnswer(t, "Open", got, err, 0, want)
	mustBe(t, "the buffer", all, left)
	mustHash(t, "refused", y, m)
}

// P14.7: each error in its order, with and without a key, at the last number too; hash, chaining key and cipher stay.
func TestOpenRefuses(t *testing.T) {
	for _, s := range engines() {
		bare, bareModel := pair(s, []byte("keel"))
		y, m := keyedPair(s)
		last, lastModel := keyedPair(s)
		setNumber(last, lastModel, api.LastNonce)
		for _, size := range sizes() {
			buf := drawn(2, size)
			for _, n := range wrong(size) {
				refusedOpen(t, bare, bareModel, buf, n, api.ErrArg)
				refusedOpen(t, y, m, buf, n, api.ErrArg)
				refusedOpen(t, last, lastModel, buf, n, api.ErrArg)
			}
			for n := 0; n <= size; n++ {
				if n < 16 {
					refusedOpen(t, y, m, buf, n, api.ErrShort)
					refusedOpen(t, last, lastModel, buf, n, api.ErrShort)
				} else {
					refusedOpen(t, y, m, buf, n, api.ErrAuth)
					refusedOpen(t, last, lastModel, buf, n, api.ErrNonce)
				}
			}
		}
		mustHold(t, "refused without a key", bare, bareModel)
		mustHold(t, "refused with a key", y, m)
		mustSplit(t, "refused at the last number", last, lastModel)
		setNumber(last, lastModel, 5)
		mustHold(t, "refused at the last number", last, lastModel)
	}
}

// P14.7: what was changed on the way is refused; the right message is opened behind it, as if the others had not been asked for.
func TestOpenRefusesOthers(t *testing.T) {
	for _, s := range engines() {
		y, m := keyedPair(s)
		for round := range 3 {
			text := drawn(uint64(round), 30)
			right := sealedFor(t, m, text)
			for _, i := range []int{0, 29, 30, 45} {
				other := slices.Clone(right)
				other[i] ^= 0x20
				refusedOpen(t, y, m, other, 46, api.ErrAuth)
			}
			refusedOpen(t, y, m, right, 45, api.ErrAuth)
			refusedOpen(t, y, m, right, 16, api.ErrAuth)
			refusedOpen(t, y, m, right, 15, api.ErrShort)
			refusedOpen(t, y, m, append(slices.Clone(right), 0), 47, api.ErrAuth)
			for _, off := range []func(m *model){
				func(m *model) { m.number++ },
				func(m *model) { m.hash[31]++ },
				func(m *model) { m.hash = m.s.Hash(m.hash[:], right) },
				func(m *model) { m.key[0]++ },
			} {
				other := *m
				off(&other)
				refusedOpen(t, y, m, sealedFor(t, &other, text), 46, api.ErrAuth)
			}
			n, err := y.Open(right, 46)
			mustAnswer(t, "the right one", n, err, 30, nil)
			mustBe(t, "the right one", right[:30], text)
			m.open(sealedFor(t, m, text), 46)
			mustHold(t, "behind it", y, m)
		}
	}
}

// P14.7: the last number but one is a message's, and no other comes behind it until a key is mixed.
func TestOpenAtTheEnd(t *testing.T) {
	for _, s := range engines() {
		y, m := keyedPair(s)
		setNumber(y, m, api.LastNonce-1)
		buf := sealedFor(t, m, drawn(1, 20))
		m.open(slices.Clone(buf), 36)
		n, err := y.Open(buf, 36)
		mustAnswer(t, "the last one", n, err, 20, nil)
		for range 2 {
			refusedOpen(t, y, m, sealedFor(t, m, drawn(1, 20)), 36, api.ErrNonce)
		}
		y.MixKeyAndHash(nil)
		m.mixKeyAndHash(nil)
		mustHold(t, "behind the end", y, m)
	}
}

// P14.7: a nil buffer is one without a byte.
func TestOpenOfNothing(t *testing.T) {
	for _, s := range engines() {
		for _, buf := range [][]byte{nil, {}} {
			y, m := pair(s, nil)
			n, err := y.Open(buf, 0)
			mustAnswer(t, "Open of nothing", n, err, 0, nil)
			m.open(nil, 0)
			mustHold(t, "Open of nothing", y, m)
			y, m = keyedPair(s)
			n, err = y.Open(buf, 0)
			mustAnswer(t, "Open of nothing under a key", n, err, 0, api.ErrShort)
			n, err = y.Open(buf, 1)
			mustAnswer(t, "Open of a byte that is not there", n, err, 0, api.ErrArg)
			mustHold(t, "Open of nothing under a key", y, m)
		}
	}
}
