package slow_test

import (
	"crypto/ecdh"
	"encoding/hex"
	"math/big"
	"slices"
	"testing"

	"pintle/api"
	"pintle/curve"
	"pintle/slow"
)

// power is 2^n and so many more, in bytes, the lowest one first.
func power(n uint, more int64) (k api.Key) {
	number := new(big.Int).Lsh(big.NewInt(1), n)
	number.Add(number, big.NewInt(more)).FillBytes(k[:])
	slices.Reverse(k[:])
	return k
}

// privates are private keys at both ends, beside what clamping sets and takes away, and between.
func privates() []api.Key {
	list := []api.Key{{31: 0x40}, {7, 31: 0xc0}, {8}, {31: 0x20}, full(0x55), full(0xaa), power(254, 8), power(255, -8), power(255, -16)}
	return append(list, keys()...)
}

// publics are public keys at both ends, at 2^255 - 19, beside it and above it, and between.
func publics() []api.Key {
	list := []api.Key{{2}, {9}, power(254, 0), power(255, -21), power(255, -17), power(255, -1), power(255, 2), power(256, -19), full(0x55)}
	return append(list, keys()...)
}

// nothings are public keys whose points come to nothing when they are taken eight times, as every clamped key takes them.
func nothings(t *testing.T) []api.Key {
	list := []api.Key{
		{},
		{1},
		power(255, -20),
		api.Key(fromHex(t, "e0eb7a7c3b41b8ae1656e3faf19fc46ada098deb9c32b1fd866205165f49b800")),
		api.Key(fromHex(t, "5f9c95bca3508c24b1d0b1559c83ef5b04445cc4581c8e86d8224eddd09f1157")),
		power(255, -19),
		power(255, -18),
	}
	for _, u := range slices.Clone(list) {
		u[31] |= 0x80
		list = append(list, u)
	}
	return list
}

func mustKey(t *testing.T, what string, got, want api.Key) {
	t.Helper()
	mustBe(t, what, got[:], want[:])
}

// P9.1: the examples of chapter 5.
func TestCurveExamples(t *testing.T) {
	rising, five := api.Key(counted(33)[1:]), full(5)
	nothing := api.Key(fromHex(t, "2fe57da347cd62431528daac5fbb290730fff684afc4cfc2ed90995f58cb3b74"))
	mustKey(t, "Public(32 x 00)", slow.Public(api.Key{}), nothing)
	mustKey(t, "Public(.. 40)", slow.Public(api.Key{31: 0x40}), nothing)
	both := api.Key(fromHex(t, "1700bd33d4bbcb8a596a0eda34b7c8d3d0bd67a2bbfd1d30866d947e3cd98e33"))
	mustKey(t, "Shared of one side", slow.Shared(rising, slow.Public(five)), both)
	mustKey(t, "Shared of the other", slow.Shared(five, slow.Public(rising)), both)
	above := full(0xff)
	above[0] = 0xee
	mustKey(t, "Shared of 2^256 - 18", slow.Shared(rising, above), api.Key{})
}

// P9.1: the numbers that RFC 7748 gives.
func TestCurveKnown(t *testing.T) {
	for i, x := range []struct{ private, public, want string }{
		{
			"a546e36bf0527c9d3b16154b82465edd62144c0ac1fc5a18506a2244ba449ac4",
			"e6db6867583030db3594c1a424b15f7c726624ec26b3353b10a903a6d0ab1c4c",
			"c3da55379de9c6908e94ea4df28d084f32eccf03491c71f754b4075577a28552",
		},
		{
			"4b66e9d4d1b4673c5ad22691957d6af5c11b6421e0ea01d42ca4169e7918ba0d",
			"e5210f12786811d3f4b7959d0538ae2c31dbe7106fc03c3efc4cd549c715a493",
			"95cbde9476e8907d7aade45cb4b873f88b595a68799fa152e6f8f7647aac7957",
		},
	} {
		got := slow.Shared(api.Key(fromHex(t, x.private)), api.Key(fromHex(t, x.public)))
		if hex.EncodeToString(got[:]) != x.want {
			t.Errorf("row %d: %x", i, got)
		}
	}
	once := slow.Shared(api.Key{9}, api.Key{9})
	mustBe(t, "9 times 9", once[:], fromHex(t, "422c8e7a6227d7bca1350b3e2bb7279f7897b87bb6854b783c60e80311ae3079"))
}

// P9.1: the library reckons the same.
func TestCurveLibrary(t *testing.T) {
	for seed := range uint64(12) {
		k, u := api.Key(drawn(seed, 32)), api.Key(drawn(seed+100, 32))
		private, err := ecdh.X25519().NewPrivateKey(k[:])
		if err != nil {
			t.Fatal(err)
		}
		mustKey(t, "Public", slow.Public(k), api.Key(private.PublicKey().Bytes()))
		public, err := ecdh.X25519().NewPublicKey(u[:])
		if err != nil {
			t.Fatal(err)
		}
		want, err := private.ECDH(public)
		if err != nil {
			t.Fatal(err)
		}
		mustKey(t, "Shared", slow.Shared(k, u), api.Key(want))
	}
}

// P9.1: the other engine's answers, for keys of all kinds.
func TestSharedBesideCurve(t *testing.T) {
	for _, k := range privates() {
		for _, u := range publics() {
			if got, want := slow.Shared(k, u), curve.Shared(nil, k, u); got != want {
				t.Errorf("Shared(%x, %x): %x, not %x", k, u, got, want)
			}
		}
		mustKey(t, "Public", slow.Public(k), curve.Public(nil, k))
		mustKey(t, "Public beside Shared with 9", slow.Public(k), slow.Shared(k, api.Key{9}))
	}
}

// P9.1: each digit of a private key and of a public one for itself.
func TestSharedDigits(t *testing.T) {
	for n := range 256 {
		var one api.Key
		one[n/8] = 1 << (n % 8)
		other := api.Key(drawn(uint64(n), 32))
		mustKey(t, "a private key of one digit", slow.Shared(one, other), curve.Shared(nil, one, other))
		mustKey(t, "a public key of one digit", slow.Shared(other, one), curve.Shared(nil, other, one))
	}
}

// P9.1: 2^255 - 19 to 2^255 - 1, without the highest digit and with it, are 0 to 18.
func TestPublicAbove(t *testing.T) {
	for _, k := range []api.Key{{}, full(0xff), api.Key(drawn(1, 32))} {
		for n := range int64(19) {
			want := slow.Shared(k, api.Key{byte(n)})
			mustKey(t, "small", want, curve.Shared(nil, k, api.Key{byte(n)}))
			mustKey(t, "2^255 - 19 and more", slow.Shared(k, power(255, -19+n)), want)
			mustKey(t, "2^256 - 19 and more", slow.Shared(k, power(256, -19+n)), want)
			mustKey(t, "with the highest digit", slow.Shared(k, power(255, n)), want)
		}
	}
}

// P9.1: a key is never refused; where there is nothing to divide by, the answer is zeros.
func TestNothing(t *testing.T) {
	for _, k := range privates() {
		for _, u := range nothings(t) {
			mustKey(t, "Shared", slow.Shared(k, u), api.Key{})
			mustKey(t, "the other engine's", curve.Shared(nil, k, u), api.Key{})
		}
	}
}

// P9.1: clamped or not, a private key is the same; and both sides come to one secret, on either engine.
func TestAgreement(t *testing.T) {
	list := privates()
	for i, a := range list {
		b := list[(i+1)%len(list)]
		secret := slow.Shared(a, slow.Public(b))
		mustKey(t, "of the other side", slow.Shared(b, slow.Public(a)), secret)
		mustKey(t, "of the other side on the other engine", curve.Shared(nil, b, slow.Public(a)), secret)
		mustKey(t, "of a clamped key", slow.Shared(curve.Clamp(a), slow.Public(b)), secret)
	}
}
