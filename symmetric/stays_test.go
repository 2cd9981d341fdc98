package symmetric_test

import (
	"slices"
	"testing"

	"pintle/api"
	"pintle/suite"
	"pintle/symmetric"
)

// margin is more than the stream turns at one time.
const margin = 300

// P14.11: name, in and data stay as they were, with what lies ahead of them and behind their end.
func TestHandedInStays(t *testing.T) {
	for _, s := range engines() {
		for _, n := range lengths() {
			all := drawn(5, margin+n+margin)
			part := all[margin : margin+n]
			y := symmetric.New(s, part)
			y.MixHash(part)
			y.MixKey(part)
			y.MixKeyAndHash(part)
			y.MixHash(part)
			y.Split()
			mustBe(t, "what is handed in", all, drawn(5, margin+n+margin))
		}
	}
}

// outcome is a call, and what it leaves at the buffer's beginning; all else of it stays.
type outcome struct {
	what  string
	keyed bool
	last  bool // at the last number
	seal  bool
	n     int
	err   error
	ahead []byte
}

const outcomeSize = 150

// begunBuf is what each outcome's buffer begins with: a sealed text of 77 bytes, and any bytes.
func begunBuf(t *testing.T) []byte {
	t.Helper()
	_, m := keyedPair(suite.Plain())
	buf := sealedFor(t, m, drawn(20, 77))
	return append(buf, drawn(22, outcomeSize-len(buf))...)
}

func outcomes(t *testing.T) []outcome {
	t.Helper()
	_, m := keyedPair(suite.Plain())
	twice := func(n int) []byte { return sealedFor(t, m, begunBuf(t)[:n]) }
	return []outcome{
		{"Seal", true, false, true, 100, nil, twice(100)},
		{"Seal to the end", true, false, true, 134, nil, twice(134)},
		{"Seal of nothing", true, false, true, 0, nil, twice(0)},
		{"Seal of -1", true, false, true, -1, api.ErrArg, nil},
		{"Seal of too many", true, false, true, 151, api.ErrArg, nil},
		{"Seal without room", true, false, true, 135, api.ErrRoom, nil},
		{"Seal at the last number", true, true, true, 100, api.ErrNonce, nil},
		{"Open", true, false, false, 93, nil, drawn(20, 77)},
		{"Open of another length", true, false, false, 120, api.ErrAuth, make([]byte, 104)},
		{"Open of 16 bytes", true, false, false, 16, api.ErrAuth, nil},
		{"Open to the end, refused", true, false, false, 150, api.ErrAuth, make([]byte, 134)},
		{"Open of -1", true, false, false, -1, api.ErrArg, nil},
		{"Open of too many", true, false, false, 151, api.ErrArg, nil},
		{"Open of 15 bytes", true, false, false, 15, api.ErrShort, nil},
		{"Open at the last number", true, true, false, 93, api.ErrNonce, nil},
		{"Seal without a key", false, false, true, 100, nil, nil},
		{"Seal without a key to the end", false, false, true, 150, nil, nil},
		{"Seal of too many without a key", false, false, true, 151, api.ErrArg, nil},
		{"Open without a key", false, false, false, 93, nil, nil},
		{"Open without a key to the end", false, false, false, 150, nil, nil},
		{"Open of -1 without a key", false, false, false, -1, api.ErrArg, nil},
	}
}

// P14.11, W7: of a buffer in the midst of a list just the bytes that chapter 13 names change: none ahead of it, no others of its own, none behind its end.
func TestAllElseStays(t *testing.T) {
	for _, s := range engines() {
		for _, o := range outcomes(t) {
			y, _ := pair(s, []byte("keel"))
			if o.keyed {
				y, _ = keyedPair(s)
			}
			if o.last {
				y.SetNumber(api.LastNonce)
			}
			call := y.Open
			if o.seal {
				call = y.Seal
			}
			before, behind := drawn(24, margin), drawn(25, margin)
			all := slices.Concat(before, begunBuf(t), behind)
			if _, err := call(all[margin:margin+outcomeSize], o.n); err != o.err {
				t.Fatalf("%s: %v", o.what, err)
			}
			left := begunBuf(t)
			copy(left, o.ahead)
			mustBe(t, o.what, all, slices.Concat(before, left, behind))
		}
	}
}

// P14.11: what is written over later, of name, in, data and the buffers, changes no later answer; and no later call touches them.
func TestNothingIsKept(t *testing.T) {
	for _, s := range engines() {
		for _, n := range []int{5, 32, 33, 70} {
			name, data, in, psk := drawn(1, n), drawn(2, n), drawn(3, n), drawn(4, n)
			y, m := symmetric.New(s, name), begun(suite.Plain(), drawn(1, n))
			clear(name)
			mustHash(t, "the name written over", y, m)
			mustSplit(t, "the name written over", y, m)
			y.MixHash(data)
			clear(data)
			m.mixHash(drawn(2, n))
			mustHash(t, "data written over", y, m)
			y.MixKey(in)
			clear(in)
			m.mixKey(drawn(3, n))
			y.MixKeyAndHash(psk)
			clear(psk)
			m.mixKeyAndHash(drawn(4, n))
			mustHold(t, "in written over", y, m)
			sealed := mustSeal(t, "Seal", y, m, drawn(5, n))
			clear(sealed)
			mustHold(t, "what was sealed written over", y, m)
			opened := sealedFor(t, m, drawn(6, n))
			m.open(slices.Clone(opened), n+16)
			got, err := y.Open(opened, n+16)
			mustAnswer(t, "Open", got, err, n, nil)
			clear(opened)
			mustHold(t, "what was opened written over", y, m)
			mustHold(t, "once more", y, m)
			for _, list := range [][]byte{name, data, in, psk, sealed, opened} {
				mustBe(t, "what was handed in earlier", list, make([]byte, len(list)))
			}
		}
	}
}

// P14.11: the hash that is answered is a value: to write in it changes nothing.
func TestHashIsAValue(t *testing.T) {
	for _, s := range engines() {
		y, m := keyedPair(s)
		hash := y.Hash()
		clear(hash[:])
		mustHold(t, "the hash written over", y, m)
	}
}

// P14.11: two States of one Suite and one name, in turns, have nothing in common.
func TestInTurns(t *testing.T) {
	for _, s := range engines() {
		y, m := pair(s, []byte("keel"))
		z, o := pair(s, []byte("keel"))
		for i := range 4 {
			first, second := drawn(uint64(i), 32), drawn(uint64(i+10), 20)
			y.MixHash(first)
			m.mixHash(first)
			mustHash(t, "the other one", z, o)
			z.MixHash(second)
			o.mixHash(second)
			mustHold(t, "the first one", y, m)
			y.MixKey(first)
			m.mixKey(first)
			mustHold(t, "the other one", z, o)
			z.MixKeyAndHash(second)
			o.mixKeyAndHash(second)
			mustHold(t, "the first one", y, m)
			mustHold(t, "the other one", z, o)
			refusedOpen(t, y, m, drawn(1, 40), 40, api.ErrAuth)
			mustHold(t, "the other one", z, o)
		}
	}
}

// P14.11: what is done to the ciphers of Split does not show in the State, nor what is done to it in them.
func TestSplitAndState(t *testing.T) {
	for _, s := range engines() {
		y, m := keyedPair(s)
		a, b := m.split()
		first, second := y.Split()
		y.MixKey([]byte("oar"))
		m.mixKey([]byte("oar"))
		mustSeal(t, "the State goes on", y, m, drawn(1, 30))
		refusedOpen(t, y, m, drawn(1, 40), 40, api.ErrAuth)
		mustCipher(t, "the first", first, a)
		mustCipher(t, "the second", second, b)
		first.Key(api.Key{1})
		second.Rekey()
		second.SetNonce(api.LastNonce)
		mustHold(t, "the State", y, m)
		y.MixKeyAndHash(nil)
		m.mixKeyAndHash(nil)
		mustHold(t, "the State", y, m)
		if first.Nonce() != 0 || second.Nonce() != api.LastNonce {
			t.Errorf("%d, %d", first.Nonce(), second.Nonce())
		}
	}
}
