package symmetric_test

import (
	"slices"
	"testing"

	"pintle/aead"
	"pintle/api"
	"pintle/suite"
	"pintle/symmetric"
)

// P14.5, P14.6: the document's examples of Has and Seal.
func TestExamplesOfSeal(t *testing.T) {
	for _, s := range engines() {
		y, abc := symmetric.New(s, []byte("keel")), []byte("abc")
		y.MixHash([]byte("mast"))
		if y.Has() {
			t.Error("a key out of nothing")
		}
		n, err := y.Seal(abc, 3)
		mustAnswer(t, "Seal of abc", n, err, 3, nil)
		mustBe(t, "abc", abc, []byte("abc"))
		n, err = y.Seal(abc, 4)
		mustAnswer(t, "Seal of 4 bytes", n, err, 0, api.ErrArg)
		n, err = y.Seal(abc, -1)
		mustAnswer(t, "Seal of -1 bytes", n, err, 0, api.ErrArg)
		y.MixKey([]byte("sail"))
		n, err = y.Seal(make([]byte, 18), 3)
		mustAnswer(t, "Seal in 18 bytes", n, err, 0, api.ErrRoom)
		n, err = y.Seal(make([]byte, 19), 3)
		mustAnswer(t, "Seal in 19 bytes", n, err, 19, nil)
	}
}

// P14.6: without a key the bytes stay, n is answered, and the hash takes the n bytes, no others.
func TestSealWithoutKey(t *testing.T) {
	for _, s := range engines() {
		for _, size := range sizes() {
			y, m := pair(s, []byte("keel"))
			for n := 0; n <= size; n++ {
				buf := drawn(uint64(n), size)
				want := suite.Plain().Hash(m.hash[:], buf[:n])
				got, err := y.Seal(buf, n)
				mustAnswer(t, "Seal without a key", got, err, n, nil)
				mustBe(t, "the buffer", buf, drawn(uint64(n), size))
				if y.Hash() != want || y.Has() {
					t.Fatalf("%d of %d bytes: %x, %v, not %x", n, size, y.Hash(), y.Has(), want)
				}
				m.seal(buf, n)
			}
			mustHold(t, "Seal without a key", y, m)
		}
	}
}

// P14.6: with a key it is the cipher's Seal with the hash for ad; then the hash takes the n + 16 bytes as they are now.
func TestSealWithKey(t *testing.T) {
	for _, s := range engines() {
		for _, n := range lengths() {
			y, m := keyedPair(s)
			for i := range 3 {
				buf, want := drawn(uint64(i), n+16+i), drawn(uint64(i), n+16+i)
				aead.Seal(suite.Plain(), m.key, uint64(i), m.hash[:], want, n)
				hash := suite.Plain().Hash(m.hash[:], want[:n+16])
				got, err := y.Seal(buf, n)
				mustAnswer(t, "Seal with a key", got, err, n+16, nil)
				mustBe(t, "what is sealed", buf, want)
				if y.Hash() != hash || !y.Has() {
					t.Fatalf("%d bytes: %x, not %x", n, y.Hash(), hash)
				}
				m.seal(drawn(uint64(i), n+16+i), n)
			}
			mustHold(t, "Seal with a key", y, m)
		}
	}
}

// P14.6: messages in a row, with all that can be mixed in between.
func TestSealInARow(t *testing.T) {
	for _, s := range engines() {
		y, m := pair(s, drawn(1, 40))
		for i, n := range lengths() {
			in := drawn(uint64(i), n)
			switch i % 4 {
			case 1:
				y.MixKey(in)
				m.mixKey(in)
			case 2:
				y.MixHash(in)
				m.mixHash(in)
			case 3:
				y.MixKeyAndHash(in)
				m.mixKeyAndHash(in)
			}
			mustSeal(t, "the first", y, m, in)
			mustSeal(t, "the second", y, m, in)
		}
		mustHold(t, "behind all", y, m)
	}
}

// refusedSeal asks for an error: the buffer stays, with what lies behind it, and so does all that the State keeps.
func refusedSeal(t *testing.T, y *symmetric.State, m *model, size, n int, want error) {
	t.Helper()
	all := drawn(1, size+40)
	got, err := y.Seal(all[:size], n)
	mustAnswer(t, "Seal", got, err, 0, want)
	mustBe(t, "the buffer", all, drawn(1, size+40))
	mustHash(t, "refused", y, m)
}

// P14.6: each error in its order, with and without a key, at the last number too; nothing has changed.
func TestSealRefuses(t *testing.T) {
	for _, s := range engines() {
		bare, bareModel := pair(s, []byte("keel"))
		y, m := keyedPair(s)
		last, lastModel := keyedPair(s)
		setNumber(last, lastModel, api.LastNonce)
		for _, size := range sizes() {
			for _, n := range wrong(size) {
				refusedSeal(t, bare, bareModel, size, n, api.ErrArg)
				refusedSeal(t, y, m, size, n, api.ErrArg)
				refusedSeal(t, last, lastModel, size, n, api.ErrArg)
			}
			for n := 0; n <= size; n++ {
				if size-n < 16 {
					refusedSeal(t, y, m, size, n, api.ErrRoom)
					refusedSeal(t, last, lastModel, size, n, api.ErrRoom)
				} else {
					refusedSeal(t, last, lastModel, size, n, api.ErrNonce)
				}
			}
		}
		mustHold(t, "refused without a key", bare, bareModel)
		mustHold(t, "refused with a key", y, m)
		mustSplit(t, "refused at the last number", last, lastModel)
		setNumber(last, lastModel, 5)
		mustHold(t, "refused at the last number", last, lastModel)
	}
}

// P14.6: the last number but one is a message's, and no other comes behind it until a key is mixed.
func TestSealAtTheEnd(t *testing.T) {
	for _, s := range engines() {
		y, m := keyedPair(s)
		setNumber(y, m, api.LastNonce-1)
		mustSeal(t, "the last one", y, m, drawn(1, 20))
		for range 2 {
			refusedSeal(t, y, m, 40, 20, api.ErrNonce)
		}
		y.MixKey(nil)
		m.mixKey(nil)
		mustHold(t, "behind the end", y, m)
	}
}

// P14.6: a nil buffer is one without a byte.
func TestSealOfNothing(t *testing.T) {
	for _, s := range engines() {
		for _, buf := range [][]byte{nil, {}} {
			y, m := pair(s, nil)
			n, err := y.Seal(buf, 0)
			mustAnswer(t, "Seal of nothing", n, err, 0, nil)
			m.seal(nil, 0)
			mustHold(t, "Seal of nothing", y, m)
			y, m = keyedPair(s)
			n, err = y.Seal(buf, 0)
			mustAnswer(t, "Seal in nothing", n, err, 0, api.ErrRoom)
			n, err = y.Seal(buf, 1)
			mustAnswer(t, "Seal of a byte that is not there", n, err, 0, api.ErrArg)
			mustHold(t, "Seal in nothing", y, m)
			sealed := slices.Clone(mustSeal(t, "Seal of nothing", y, m, nil))
			if len(sealed) != 16 {
				t.Errorf("%x", sealed)
			}
		}
	}
}
