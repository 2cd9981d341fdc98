package slow

import (
	"math/big"

	"pintle/api"
)

// point is the coordinate u of a point as two numbers, of which the first is to be divided by the second.
type point struct{ over, under *big.Int }

// Shared is what a private key makes of a public one.
func Shared(private, public api.Key) api.Key {
	m := below(255, 19)
	k := clamped(private)
	x := coordinate(m, public)
	low, high := point{big.NewInt(1), new(big.Int)}, point{x, big.NewInt(1)}
	for t := 254; t >= 0; t-- {
		if k.Bit(t) == 0 {
			low, high = step(m, x, low, high)
		} else {
			high, low = step(m, x, high, low)
		}
	}
	var key api.Key
	copy(key[:], spell(m.divide(low.over, low.under), len(key)))
	return key
}

// Public is the public key of a private one.
func Public(private api.Key) api.Key {
	return Shared(private, api.Key{9})
}

// clamped is the number of a private key, with the digits that are the same in all of them.
func clamped(private api.Key) *big.Int {
	private[0] &= 0xf8
	private[31] = private[31]&0x7f | 0x40
	return number(private[:])
}

// coordinate is what a public key says: its highest digit says nothing.
func coordinate(m modulus, public api.Key) *big.Int {
	public[31] &= 0x7f
	return m.rest(number(public[:]))
}

// step is twice the first point, and the sum of both; x belongs to their difference.
func step(m modulus, x *big.Int, one, other point) (twice, sum point) {
	p, q := m.add(one.over, one.under), m.sub(one.over, one.under)
	pp, qq := m.mul(p, p), m.mul(q, q)
	e := m.sub(pp, qq)
	twice.over = m.mul(pp, qq)
	twice.under = m.mul(e, m.add(pp, m.mul(e, big.NewInt(121665))))

	v := m.mul(m.sub(other.over, other.under), p)
	w := m.mul(m.add(other.over, other.under), q)
	plus, minus := m.add(v, w), m.sub(v, w)
	sum.over = m.mul(plus, plus)
	sum.under = m.mul(x, m.mul(minus, minus))
	return twice, sum
}
