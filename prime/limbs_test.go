package prime

import (
	"math/big"
	"testing"

	"pintle/api"
)

// worth is the number that limbs stand for, modulo p.
func worth(a Number) *big.Int {
	sum := new(big.Int)
	for i, x := range a.limbs {
		part := new(big.Int).SetUint64(x)
		sum.Add(sum, part.Lsh(part, uint(26*i)))
	}
	return sum.Mod(sum, modulus())
}

func modulus() *big.Int {
	p := new(big.Int).Lsh(big.NewInt(1), 130)
	return p.Sub(p, big.NewInt(5))
}

// grown are Numbers whose limbs are as great as they may be, all of them and each alone, and such ones beside p.
func grown() []Number {
	const most = 1<<27 - 1
	list := []Number{{}, {[5]uint64{most, most, most, most, most}}, {[5]uint64{full, full, full, full, full + 1}}}
	for more := range uint64(10) {
		list = append(list, Number{[5]uint64{full - 8 + more, full, full, full, full}})                    // p - 4 to p + 5
		list = append(list, Number{[5]uint64{full - 8 + more, full + 1, full, full, full}})                // and with a limb that has grown
		list = append(list, Number{[5]uint64{2*full - 8 + more, 2 * full, 2 * full, 2 * full, 2 * full}})  // 2p to 2p + 9
		list = append(list, Number{[5]uint64{2*full - 17 + more, 2 * full, 2 * full, 2 * full, 2 * full}}) // 2p - 9 to 2p
	}
	for i := range 5 {
		var a Number
		a.limbs[i] = most
		list = append(list, a)
	}
	return list
}

func mustHold(t *testing.T, what string, got Number, want *big.Int) {
	t.Helper()
	if want.Mod(want, modulus()); worth(got).Cmp(want) != 0 {
		t.Errorf("%s: %d, not %d", what, worth(got), want)
	}
	for i, x := range got.limbs {
		if x >= 1<<27 {
			t.Errorf("%s: limb %d is %x", what, i, x)
		}
	}
}

// P4.1: at the bound that the limbs keep to, no call goes wrong, and none leaves it.
func TestGrownLimbs(t *testing.T) {
	for _, a := range grown() {
		m := worth(a)
		mustHold(t, "Block of Bytes", Block(a.Bytes()), worth(a))
		for _, b := range grown() {
			n := worth(b)
			mustHold(t, "Add", Add(nil, a, b), new(big.Int).Add(m, n))
			mustHold(t, "Mul", Mul(nil, a, b), new(big.Int).Mul(m, n))
		}
	}
}

// P4.1: Block and Clamp leave the bound neither.
func TestBlockLimbs(t *testing.T) {
	var all [17]byte
	for i := range all {
		all[i] = 0xff
	}
	mustHold(t, "17 bytes ff", Block(all), big.NewInt(319))
	mustHold(t, "a key of ff", Clamp([16]byte(all[:16])), worth(Clamp([16]byte(all[:16]))))
}

// P4.5, P4.6: what is told is below p, however the number was kept.
func TestGrownBytes(t *testing.T) {
	for _, a := range grown() {
		b := a.Bytes()
		if a.Sum([16]byte{}) != api.Tag(b[:16]) {
			t.Errorf("%x: the sum with 0 is %x, not %x", a.limbs, a.Sum([16]byte{}), b[:16])
		}
		for i, j := 0, len(b)-1; i < j; i, j = i+1, j-1 {
			b[i], b[j] = b[j], b[i]
		}
		if got := new(big.Int).SetBytes(b[:]); got.Cmp(worth(a)) != 0 {
			t.Errorf("%x: %d, not %d", a.limbs, got, worth(a))
		}
	}
}
