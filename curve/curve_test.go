package curve_test

import (
	"crypto/ecdh"
	"encoding/hex"
	"math/big"
	"slices"
	"testing"

	"pintle/api"
	"pintle/curve"
	"pintle/trace"
)

// key is 32 bytes out of their hex.
func key(t *testing.T, text string) api.Key {
	t.Helper()
	b, err := hex.DecodeString(text)
	if err != nil || len(b) != len(api.Key{}) {
		t.Fatalf("%q is no key", text)
	}
	return api.Key(b)
}

func full(b byte) (k api.Key) {
	for i := range k {
		k[i] = b
	}
	return k
}

// rising is 01 02 03 .. 20.
func rising() (k api.Key) {
	for i := range k {
		k[i] = byte(i + 1)
	}
	return k
}

// digit is a key of which the binary digit number t alone is 1.
func digit(t int) (k api.Key) {
	k[t/8] = 1 << (t % 8)
	return k
}

// draws are keys by a fixed rule, so that every run sees the same ones.
func draws(n int) []api.Key {
	list := make([]api.Key, n)
	x := uint64(5)
	for i := range list {
		for j := range list[i] {
			x = x*6364136223846793005 + 1442695040888963407
			list[i][j] = byte(x >> 56)
		}
	}
	return list
}

// power is 2^n and so many more.
func power(n uint, more int64) *big.Int {
	return new(big.Int).Add(new(big.Int).Lsh(big.NewInt(1), n), big.NewInt(more))
}

// prime is made once: the ladder in big numbers asks for it at every product.
var prime = power(255, -19)

// bytesOf is a number from 0 to 2^256 - 1 in bytes, the lowest one first.
func bytesOf(n *big.Int) (k api.Key) {
	n.FillBytes(k[:])
	slices.Reverse(k[:])
	return k
}

func numberOf(k api.Key) *big.Int {
	slices.Reverse(k[:])
	return new(big.Int).SetBytes(k[:])
}

// privates are private keys at both ends, with a single digit where the ladder begins and ends, and between.
func privates() []api.Key {
	list := []api.Key{{}, full(0xff), {31: 0x40}, {31: 0x80}, {7, 31: 0xc0}, {8}, {31: 0x20}, full(0x55), full(0xaa), rising()}
	list = append(list, bytesOf(power(254, 8)), bytesOf(power(255, -8)), bytesOf(power(255, -16)))
	return append(list, draws(6)...)
}

// publics are public keys at both ends, beside 2^255 - 19 and between.
func publics() []api.Key {
	list := []api.Key{{2}, {9}, bytesOf(power(254, 0)), bytesOf(power(255, -21)), bytesOf(power(255, -1)), full(0xff), full(0x55), rising()}
	return append(list, draws(4)...)
}

// fraction is a coordinate u as two numbers, of which the first is to be divided by the second.
type fraction struct{ over, under *big.Int }

func add(a, b *big.Int) *big.Int { return new(big.Int).Add(a, b) }

func sub(a, b *big.Int) *big.Int { return new(big.Int).Sub(a, b) }

// mul is the product of all of them modulo p.
func mul(all ...*big.Int) *big.Int {
	n := big.NewInt(1)
	for _, a := range all {
		n.Mod(n.Mul(n, a), prime)
	}
	return n
}

// double is (u^2 - 1)^2 / 4u(u^2 + Au + 1), with u as a fraction.
func double(f fraction) fraction {
	less := sub(mul(f.over, f.over), mul(f.under, f.under))
	sum := add(add(mul(f.over, f.over), mul(big.NewInt(486662), f.over, f.under)), mul(f.under, f.under))
	return fraction{mul(less, less), mul(big.NewInt(4), f.over, f.under, sum)}
}

// join is the sum of two points, of whose difference x is the coordinate.
func join(f, g fraction, x *big.Int) fraction {
	one := sub(mul(f.over, g.over), mul(f.under, g.under))
	other := sub(mul(f.over, g.under), mul(f.under, g.over))
	return fraction{mul(one, one), mul(x, other, other)}
}

// reckoned is Shared by another reckoning: big numbers, and a branch at each digit.
func reckoned(private, public api.Key) fraction {
	k := numberOf(private)
	for t, bit := range map[int]uint{0: 0, 1: 0, 2: 0, 254: 1, 255: 0} {
		k.SetBit(k, t, bit)
	}
	x := numberOf(public)
	x.Mod(x.SetBit(x, 255, 0), prime)
	low, high := fraction{big.NewInt(1), new(big.Int)}, fraction{x, big.NewInt(1)}
	for t := 254; t >= 0; t-- {
		both := join(low, high, x)
		if k.Bit(t) == 1 {
			low, high = both, double(high)
		} else {
			low, high = double(low), both
		}
	}
	return low
}

// answer is the bytes of the quotient; where nothing can be divided, zeros.
func (f fraction) answer() api.Key {
	if f.under.Sign() == 0 {
		return api.Key{}
	}
	return bytesOf(mul(f.over, new(big.Int).ModInverse(f.under, prime)))
}

func mustBe(t *testing.T, what string, got, want api.Key) {
	t.Helper()
	if got != want {
		t.Errorf("%s: %x, not %x", what, got, want)
	}
}

func TestExamples(t *testing.T) {
	ones, end, above := full(0xff), full(0xff), full(0xff)
	ones[0], ones[31] = 0xf8, 0x7f
	end[0], end[31] = 0xec, 0x7f
	above[0] = 0xee
	mustBe(t, "Clamp of 32 x ff", curve.Clamp(full(0xff)), ones)
	mustBe(t, "Clamp of 32 x 00", curve.Clamp(api.Key{}), api.Key{31: 0x40})
	for _, k := range privates() {
		for _, u := range []api.Key{{}, {1}, end} {
			mustBe(t, "Shared", curve.Shared(nil, k, u), api.Key{})
		}
	}
	nothing := key(t, "2fe57da347cd62431528daac5fbb290730fff684afc4cfc2ed90995f58cb3b74")
	mustBe(t, "Public(32 x 00)", curve.Public(nil, api.Key{}), nothing)
	mustBe(t, "Public(.. 40)", curve.Public(nil, api.Key{31: 0x40}), nothing)
	mustBe(t, "Public(01 02 ..)", curve.Public(nil, rising()), key(t, "07a37cbc142093c8b755dc1b10e86cb426374ad16aa853ed0bdfc0b2b86d1c7c"))
	both := key(t, "1700bd33d4bbcb8a596a0eda34b7c8d3d0bd67a2bbfd1d30866d947e3cd98e33")
	mustBe(t, "Shared of one side", curve.Shared(nil, rising(), curve.Public(nil, full(5))), both)
	mustBe(t, "Shared of the other", curve.Shared(nil, full(5), curve.Public(nil, rising())), both)
	mustBe(t, "Shared of 2^256 - 18", curve.Shared(nil, rising(), above), api.Key{})
	r := trace.New()
	curve.Public(r, rising())
	if r.Total() != 5104 {
		t.Errorf("%d events", r.Total())
	}
}

// clamped is what Clamp makes of the digit number t: what it takes away, what it sets, what it leaves.
func clamped(t int, is bool) bool {
	switch t {
	case 0, 1, 2, 255:
		return false
	case 254:
		return true
	}
	return is
}

// P5.1: each digit for itself, against keys of all kinds.
func TestClamp(t *testing.T) {
	list := append(privates(), publics()...)
	for n := range 256 {
		one := digit(n)
		other := full(0xff)
		other[n/8] ^= one[n/8]
		list = append(list, one, other)
	}
	for _, k := range list {
		got := curve.Clamp(k)
		for n := range 256 {
			is := k[n/8]>>(n%8)&1 == 1
			if (got[n/8]>>(n%8)&1 == 1) != clamped(n, is) {
				t.Errorf("Clamp(%x) is %x: digit %d", k, got, n)
			}
		}
	}
}

// P5.2
func TestSharedReckoned(t *testing.T) {
	for _, k := range privates() {
		for _, u := range publics() {
			if got, want := curve.Shared(nil, k, u), reckoned(k, u).answer(); got != want {
				t.Errorf("Shared(%x, %x): %x, not %x", k, u, got, want)
			}
		}
	}
}

// P5.2: each digit of the key stands at its own place.
func TestSharedDigits(t *testing.T) {
	for n := range 256 {
		k, u := digit(n), draws(1)[0]
		if got, want := curve.Shared(nil, k, u), reckoned(k, u).answer(); got != want {
			t.Errorf("digit %d: %x, not %x", n, got, want)
		}
	}
}

// P5.2: the numbers that RFC 7748 gives.
func TestSharedKnown(t *testing.T) {
	for i, x := range []struct{ private, public, want string }{
		{
			"a546e36bf0527c9d3b16154b82465edd62144c0ac1fc5a18506a2244ba449ac4",
			"e6db6867583030db3594c1a424b15f7c726624ec26b3353b10a903a6d0ab1c4c",
			"c3da55379de9c6908e94ea4df28d084f32eccf03491c71f754b4075577a28552",
		},
		{
			"4b66e9d4d1b4673c5ad22691957d6af5c11b6421e0ea01d42ca4169e7918ba0d",
			"e5210f12786811d3f4b7959d0538ae2c31dbe7106fc03c3efc4cd549c715a493",
			"95cbde9476e8907d7aade45cb4b873f88b595a68799fa152e6f8f7647aac7957",
		},
	} {
		if got := curve.Shared(nil, key(t, x.private), key(t, x.public)); got != key(t, x.want) {
			t.Errorf("row %d: %x", i, got)
		}
	}
	k, u := api.Key{9}, api.Key{9}
	for i := range 1000 {
		k, u = curve.Shared(nil, k, u), k
		if i == 0 {
			mustBe(t, "once", k, key(t, "422c8e7a6227d7bca1350b3e2bb7279f7897b87bb6854b783c60e80311ae3079"))
		}
	}
	mustBe(t, "a thousand times", k, key(t, "684cf59ba83309552800ef566f2f4d3c1c3887c49360e3875f2eb94d99532c51"))
}

// P5.2, P5.3: the library reckons the same.
func TestLibrary(t *testing.T) {
	list := draws(60)
	for i, k := range list {
		private, err := ecdh.X25519().NewPrivateKey(k[:])
		if err != nil {
			t.Fatal(err)
		}
		mustBe(t, "Public", curve.Public(nil, k), api.Key(private.PublicKey().Bytes()))
		u := list[(i+1)%len(list)]
		public, err := ecdh.X25519().NewPublicKey(u[:])
		if err != nil {
			t.Fatal(err)
		}
		want, err := private.ECDH(public)
		if err != nil {
			t.Fatal(err)
		}
		mustBe(t, "Shared", curve.Shared(nil, k, u), api.Key(want))
	}
}

// P5.3
func TestPublic(t *testing.T) {
	for _, k := range privates() {
		got := curve.Public(nil, k)
		mustBe(t, "Public beside Shared with 9", got, curve.Shared(nil, k, api.Key{9}))
		mustBe(t, "Public", got, reckoned(k, api.Key{9}).answer())
	}
}

// P5.4
func TestHighestDigit(t *testing.T) {
	for _, k := range privates() {
		for _, u := range publics() {
			other := u
			other[31] ^= 0x80
			mustBe(t, "the highest digit", curve.Shared(nil, k, other), curve.Shared(nil, k, u))
		}
	}
}

// P5.4: 2^255 - 19 to 2^255 - 1, without the highest digit and with it, are 0 to 18.
func TestPublicAbove(t *testing.T) {
	for _, k := range []api.Key{{}, full(0xff), rising(), draws(1)[0]} {
		for n := range int64(19) {
			want := curve.Shared(nil, k, api.Key{byte(n)})
			mustBe(t, "2^255 - 19 and more", curve.Shared(nil, k, bytesOf(power(255, -19+n))), want)
			mustBe(t, "2^256 - 19 and more", curve.Shared(nil, k, bytesOf(power(256, -19+n))), want)
			mustBe(t, "small", want, reckoned(k, api.Key{byte(n)}).answer())
		}
	}
}

// nothings are public keys whose points come to nothing when they are taken eight times, as every clamped key takes them.
func nothings(t *testing.T) []api.Key {
	list := []api.Key{
		{},
		{1},
		bytesOf(power(255, -20)),
		key(t, "e0eb7a7c3b41b8ae1656e3faf19fc46ada098deb9c32b1fd866205165f49b800"),
		key(t, "5f9c95bca3508c24b1d0b1559c83ef5b04445cc4581c8e86d8224eddd09f1157"),
		bytesOf(prime),
		bytesOf(power(255, -18)),
	}
	for _, u := range slices.Clone(list) {
		u[31] |= 0x80
		list = append(list, u)
	}
	return list
}

// P5.4
func TestNothing(t *testing.T) {
	for _, k := range privates() {
		for _, u := range nothings(t) {
			if reckoned(k, u).under.Sign() != 0 {
				t.Fatalf("%x does not lead %x to b = 0", u, k)
			}
			mustBe(t, "Shared", curve.Shared(nil, k, u), api.Key{})
		}
	}
}

// logged is what Shared logs, written out from the chapter.
func logged() []api.Event {
	step := []int{
		api.OpSwap, api.OpSwap,
		api.OpAdd, api.OpSquare, api.OpSub, api.OpSquare, api.OpSub,
		api.OpAdd, api.OpSub, api.OpMul, api.OpMul,
		api.OpAdd, api.OpSquare, api.OpSub, api.OpSquare, api.OpMul,
		api.OpMul, api.OpScale, api.OpAdd, api.OpMul,
	}
	all := append(slices.Repeat(step, 255), api.OpSwap, api.OpSwap, api.OpInvert, api.OpMul)
	events := make([]api.Event, len(all))
	for i, op := range all {
		events[i] = api.Event{Kind: api.EventOp, Value: op}
	}
	return events
}

func mustLog(t *testing.T, what string, got, want []api.Event) {
	t.Helper()
	if len(got) != len(want) {
		t.Fatalf("%s: %d events, not %d", what, len(got), len(want))
	}
	for i := range want {
		if got[i] != want[i] {
			t.Fatalf("%s: event %d is %v, not %v", what, i, got[i], want[i])
		}
	}
}

// P5.5: event by event, whatever the keys are; whoever logs or not, the answer is the same.
func TestLogged(t *testing.T) {
	want := logged()
	if len(want) != 5104 {
		t.Fatalf("%d events", len(want))
	}
	for _, k := range privates() {
		for _, u := range append(publics(), nothings(t)...) {
			r := trace.New()
			got := curve.Shared(r, k, u)
			mustLog(t, "Shared", r.Events(), want)
			mustBe(t, "Shared without a Recorder", curve.Shared(nil, k, u), got)
		}
		r := trace.New()
		got := curve.Public(r, k)
		mustLog(t, "Public", r.Events(), want)
		mustBe(t, "Public without a Recorder", curve.Public(nil, k), got)
	}
}

// P5.5: what is logged comes behind what was there; Clamp, asked between, adds nothing.
func TestLoggedBehind(t *testing.T) {
	var r trace.Recorder
	r.At(7)
	curve.Public(&r, curve.Clamp(rising()))
	if r.Total() != 5105 {
		t.Errorf("%d events behind Public", r.Total())
	}
	curve.Shared(&r, curve.Clamp(full(0xff)), rising())
	curve.Clamp(rising())
	want := append([]api.Event{{Kind: api.EventAt, Value: 7}}, logged()...)
	mustLog(t, "one behind the other", r.Events(), append(want, logged()...))
}

// P5.6
func TestClampTwice(t *testing.T) {
	for _, k := range append(privates(), publics()...) {
		once := curve.Clamp(k)
		mustBe(t, "Clamp of Clamp", curve.Clamp(once), once)
		for _, u := range publics() {
			mustBe(t, "Shared of the clamped key", curve.Shared(nil, once, u), curve.Shared(nil, k, u))
		}
	}
}

// P5.6
func TestBelow(t *testing.T) {
	for _, k := range privates() {
		for _, u := range append(publics(), nothings(t)...) {
			if got := curve.Shared(nil, k, u); numberOf(got).Cmp(prime) >= 0 {
				t.Errorf("Shared(%x, %x) is %x", k, u, got)
			}
		}
	}
}

// P5.6
func TestAgreement(t *testing.T) {
	for _, a := range privates() {
		for _, b := range privates() {
			mustBe(t, "what both share", curve.Shared(nil, a, curve.Public(nil, b)), curve.Shared(nil, b, curve.Public(nil, a)))
		}
	}
}

// P5.6: from any public key, one that comes to nothing too.
func TestAgreementFromAny(t *testing.T) {
	list := privates()
	for i, a := range list {
		b := list[(i+1)%len(list)]
		for _, u := range append(publics(), nothings(t)...) {
			mustBe(t, "one behind the other", curve.Shared(nil, a, curve.Shared(nil, b, u)), curve.Shared(nil, b, curve.Shared(nil, a, u)))
		}
	}
}

// P5.6
func TestZeros(t *testing.T) {
	for _, k := range append(privates(), publics()...) {
		for _, u := range []api.Key{{}, {1}, bytesOf(power(255, -20))} {
			mustBe(t, "Shared of 0, 1, 2^255 - 20", curve.Shared(nil, k, u), api.Key{})
		}
	}
}
