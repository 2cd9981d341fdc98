package field

import (
	"math/big"
	"testing"
)

// worth is the number that limbs stand for, modulo p.
func worth(a Element) *big.Int {
	sum := new(big.Int)
	for i, x := range a.limbs {
		part := new(big.Int).SetUint64(x)
		sum.Add(sum, part.Lsh(part, uint(digits*i)))
	}
	return sum.Mod(sum, modulus())
}

func modulus() *big.Int {
	p := new(big.Int).Lsh(big.NewInt(1), 255)
	return p.Sub(p, big.NewInt(19))
}

// grown are Elements whose limbs are as great as they may be, all of them and each alone, and such ones beside p.
func grown() []Element {
	const most = 1<<52 - 1
	list := []Element{
		{[5]uint64{most, most, most, most, most}},
		{[5]uint64{lowest, full, full, full, full}},
		{[5]uint64{lowest - 1, full, full, full, full}},
		{[5]uint64{lowest + 1, full, full, full, full}},
		{[5]uint64{2 * lowest, 2 * full, 2 * full, 2 * full, 2 * full}},
		{[5]uint64{2*lowest - 1, 2 * full, 2 * full, 2 * full, 2 * full}},
		{[5]uint64{2*lowest + 1, 2 * full, 2 * full, 2 * full, 2 * full}},
		{[5]uint64{full + 1, full, full, full, full}},
		{[5]uint64{full, full, full, full, full + 1}},
		{},
	}
	for i := range 5 {
		var a Element
		a.limbs[i] = most
		list = append(list, a)
	}
	return list
}

func mustHold(t *testing.T, what string, got Element, want *big.Int) {
	t.Helper()
	if want.Mod(want, modulus()); worth(got).Cmp(want) != 0 {
		t.Errorf("%s: %d, not %d", what, worth(got), want)
	}
	for i, x := range got.limbs {
		if x >= 1<<52 {
			t.Errorf("%s: limb %d is %x", what, i, x)
		}
	}
}

// P3.1: at the bound that the limbs keep to, no call goes wrong, and none leaves it.
func TestGrownLimbs(t *testing.T) {
	for _, a := range grown() {
		m := worth(a)
		bytes := a.Encode()
		mustHold(t, "Decode of Encode", Decode(bytes), new(big.Int).Set(m))
		if least := a.least(); worth(Element{least}).Cmp(m) != 0 {
			t.Errorf("the least limbs of %x: %x", a.limbs, least)
		}
		mustHold(t, "Square", Square(nil, a), new(big.Int).Mul(m, m))
		mustHold(t, "Scale", Scale(nil, a, 1<<32-1), new(big.Int).Mul(m, big.NewInt(1<<32-1)))
		mustHold(t, "Invert", Invert(nil, a), new(big.Int).Exp(m, new(big.Int).Sub(modulus(), big.NewInt(2)), modulus()))
		for _, b := range grown() {
			n := worth(b)
			mustHold(t, "Add", Add(nil, a, b), new(big.Int).Add(m, n))
			mustHold(t, "Sub", Sub(nil, a, b), new(big.Int).Sub(m, n))
			mustHold(t, "Mul", Mul(nil, a, b), new(big.Int).Mul(m, n))
		}
	}
}

// P3.3: what is encoded is below p, however the number was kept.
func TestGrownEncode(t *testing.T) {
	for _, a := range grown() {
		k := a.Encode()
		for i, j := 0, len(k)-1; i < j; i, j = i+1, j-1 {
			k[i], k[j] = k[j], k[i]
		}
		if got := new(big.Int).SetBytes(k[:]); got.Cmp(worth(a)) != 0 {
			t.Errorf("%x: %d, not %d", a.limbs, got, worth(a))
		}
	}
}
