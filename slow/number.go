package slow

import (
	"math/big"
	"slices"
)

// modulus is a prime; whatever is reckoned modulo it is a number of its own, from 0 on and below the prime.
type modulus struct{ prime *big.Int }

// below is the modulus 2^power - less.
func below(power uint, less int64) modulus {
	n := new(big.Int).Lsh(big.NewInt(1), power)
	return modulus{n.Sub(n, big.NewInt(less))}
}

func (m modulus) rest(a *big.Int) *big.Int {
	return new(big.Int).Mod(a, m.prime)
}

func (m modulus) add(a, b *big.Int) *big.Int {
	return m.rest(new(big.Int).Add(a, b))
}

func (m modulus) sub(a, b *big.Int) *big.Int {
	return m.rest(new(big.Int).Sub(a, b))
}

func (m modulus) mul(a, b *big.Int) *big.Int {
	return m.rest(new(big.Int).Mul(a, b))
}

// divide is a / b, and 0 where b is 0: a power has an answer there, which an inverse has not.
func (m modulus) divide(a, b *big.Int) *big.Int {
	exponent := new(big.Int).Sub(m.prime, big.NewInt(2))
	return m.mul(a, new(big.Int).Exp(b, exponent, m.prime))
}

// number is what bytes say, the lowest one first; math/big has the highest one first.
func number(low []byte) *big.Int {
	high := make([]byte, len(low))
	copy(high, low)
	slices.Reverse(high)
	return new(big.Int).SetBytes(high)
}

// spell is the lowest bytes of a number, size of them, the lowest one first; what does not go into them is lost.
func spell(n *big.Int, size int) []byte {
	low := n.Bytes()
	slices.Reverse(low)
	list := make([]byte, size)
	copy(list, low)
	return list
}
