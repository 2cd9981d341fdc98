package cipher_test

import (
	"slices"
	"testing"

	"pintle/api"
	"pintle/cipher"
	"pintle/suite"
)

// margin is more than the stream turns at one time.
const margin = 300

// outcome is a call, what it answers, and what it leaves of the bytes that it begins with.
type outcome struct {
	what   string
	key    bool
	number uint64
	call   asked
	n      int
	want   error
	ahead  []byte // what stands at the buffer's beginning behind the call; all else is as it was
}

const (
	outcomeSize   = 150
	outcomeNumber = 9
)

func outcomeAd() []byte { return drawn(21, 19) }

// begunBuf is what each outcome's buffer begins with: a sealed text of 77 bytes, and any bytes.
func begunBuf(t *testing.T) []byte {
	t.Helper()
	buf := sealed(t, exampleKey(), outcomeNumber, outcomeAd(), drawn(20, 77))
	return append(buf, drawn(22, outcomeSize-len(buf))...)
}

func outcomes(t *testing.T) []outcome {
	t.Helper()
	seal, open := (*cipher.State).Seal, (*cipher.State).Open
	twice := func(n int) []byte { return sealed(t, exampleKey(), outcomeNumber, outcomeAd(), begunBuf(t)[:n]) }
	return []outcome{
		{"Seal", true, outcomeNumber, seal, 100, nil, twice(100)},
		{"Seal to the end", true, outcomeNumber, seal, 134, nil, twice(134)},
		{"Seal of nothing", true, outcomeNumber, seal, 0, nil, twice(0)},
		{"Open", true, outcomeNumber, open, 93, nil, drawn(20, 77)},
		{"Open under another number", true, outcomeNumber + 1, open, 93, api.ErrAuth, make([]byte, 77)},
		{"Open of another length", true, outcomeNumber, open, 120, api.ErrAuth, make([]byte, 104)},
		{"Open of 16 bytes", true, outcomeNumber, open, 16, api.ErrAuth, nil},
		{"Open to the end, refused", true, outcomeNumber, open, 150, api.ErrAuth, make([]byte, 134)},
		{"Seal of -1", true, outcomeNumber, seal, -1, api.ErrArg, nil},
		{"Seal of too many", true, outcomeNumber, seal, 151, api.ErrArg, nil},
		{"Seal without room", true, outcomeNumber, seal, 135, api.ErrRoom, nil},
		{"Seal at the last number", true, api.LastNonce, seal, 100, api.ErrNonce, nil},
		{"Open of -1", true, outcomeNumber, open, -1, api.ErrArg, nil},
		{"Open of too many", true, outcomeNumber, open, 151, api.ErrArg, nil},
		{"Open of 15 bytes", true, outcomeNumber, open, 15, api.ErrShort, nil},
		{"Open at the last number", true, api.LastNonce, open, 93, api.ErrNonce, nil},
		{"Seal without a key", false, outcomeNumber, seal, 100, nil, nil},
		{"Seal without a key to the end", false, outcomeNumber, seal, 150, nil, nil},
		{"Seal of too many without a key", false, outcomeNumber, seal, 151, api.ErrArg, nil},
		{"Open without a key", false, outcomeNumber, open, 93, nil, nil},
		{"Open without a key to the end", false, outcomeNumber, open, 150, nil, nil},
		{"Open of -1 without a key", false, outcomeNumber, open, -1, api.ErrArg, nil},
	}
}

// P13.7, P0.9: of a buffer in the midst of a list just the bytes that are named change: none ahead of it, none of its own, none behind its end; what a failed Open has opened is zeros; and ad stays, with the room behind it.
func TestAllElseStays(t *testing.T) {
	for _, s := range engines() {
		for _, o := range outcomes(t) {
			c := cipher.New(s)
			if o.key {
				c.Key(exampleKey())
			}
			c.SetNonce(o.number)
			before, behind := drawn(24, margin), drawn(25, margin)
			all := slices.Concat(before, begunBuf(t), behind)
			ad := append(outcomeAd(), drawn(23, 64)...)
			_, err := o.call(c, ad[:19], all[margin:margin+outcomeSize], o.n)
			if err != o.want {
				t.Fatalf("%s: %v", o.what, err)
			}
			left := begunBuf(t)
			copy(left, o.ahead)
			mustBe(t, o.what, all, slices.Concat(before, left, behind))
			mustBe(t, o.what+": ad", ad, append(outcomeAd(), drawn(23, 64)...))
		}
	}
}

// P13.7: what is written over later, of ad, of the buffer and of the key, changes no later answer; and no later call touches an earlier buffer.
func TestNothingIsKept(t *testing.T) {
	for _, s := range engines() {
		key := exampleKey()
		c := cipher.New(s)
		c.Key(key)
		clear(key[:])
		ad, buf := drawn(30, 40), drawn(31, 66)
		mustSeal(t, c, ad, buf, 50)
		clear(ad)
		clear(buf)
		mustHave(t, "behind a message that was written over", c, exampleKey(), 1)
		mustRekey(t, c)
		mustHave(t, "rekeyed behind it", c, rekeyed(t, exampleKey()), 1)
		next := sealed(t, rekeyed(t, exampleKey()), 1, drawn(30, 40), drawn(31, 50))
		mustOpen(t, c, drawn(30, 40), next, 66)
		mustBe(t, "what is opened", next[:50], drawn(31, 50))
		clear(next)
		mustSeal(t, c, nil, drawn(32, 66), 50)
		mustBe(t, "an earlier ad", ad, make([]byte, 40))
		mustBe(t, "an earlier buffer", buf, make([]byte, 66))
		mustBe(t, "the last one", next, make([]byte, 66))
	}
}

// P13.7: two States of one Suite in turns: neither sees the other's key, number or Rekey.
func TestNothingInCommon(t *testing.T) {
	for _, s := range engines() {
		a, b := cipher.New(s), cipher.New(s)
		a.Key(exampleKey())
		a.SetNonce(5)
		mustLack(t, "the other one", b, 0)
		b.Key(api.Key{1})
		mustHave(t, "the first one", a, exampleKey(), 5)
		mustSeal(t, a, nil, drawn(1, 30), 10)
		mustHave(t, "the other one", b, api.Key{1}, 0)
		mustRekey(t, a)
		mustHave(t, "the other one", b, api.Key{1}, 0)
		mustRekey(t, b)
		b.SetNonce(api.LastNonce)
		mustHave(t, "the first one", a, rekeyed(t, exampleKey()), 6)
		mustHave(t, "the other one", b, rekeyed(t, api.Key{1}), api.LastNonce)
		mustLack(t, "a third one", cipher.New(s), 0)
	}
}

// P13.7: nor do two of one key, whose numbers go apart, on engines of their own.
func TestInTurns(t *testing.T) {
	a, b := keyed(suite.Fast(nil), exampleKey(), 0), keyed(suite.Plain(), exampleKey(), 100)
	for i := range uint64(6) {
		first, second := drawn(i, 36), drawn(i+50, 36)
		mustSeal(t, a, nil, first, 20)
		mustSeal(t, b, nil, second, 20)
		mustBe(t, "the first one's", first, sealed(t, exampleKey(), i, nil, drawn(i, 20)))
		mustBe(t, "the other one's", second, sealed(t, exampleKey(), 100+i, nil, drawn(i+50, 20)))
	}
	mustCount(t, "the first one", a, 6)
	mustCount(t, "the other one", b, 106)
}
