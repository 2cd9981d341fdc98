// Package mask chooses without a branch: see DOC.md, chapter 1. Of a bit the lowest one alone counts.
package mask

import "pintle/api"

// Equal is 1, if a and b are the same, else 0.
func Equal(a, b uint64) uint64 {
	differ := a ^ b
	// Of a number and its negative one at least has the highest digit, unless both are 0.
	return top(differ|-differ) ^ 1
}

// Less is 1, if a is below b, else 0.
func Less(a, b uint64) uint64 {
	// Where the highest digits differ, b's decides; where they are the same, the difference wraps round just if a is below b.
	return top(^a&b | ^(a^b)&(a-b))
}

// Pick is a, if the bit is 1, else b.
func Pick(bit, a, b uint64) uint64 {
	return b ^ spread(bit)&(a^b)
}

// EqualTags is 1, if a and b are the same, else 0.
func EqualTags(a, b api.Tag) uint64 {
	var differ byte
	for i, x := range a {
		differ |= x ^ b[i]
	}
	return Equal(uint64(differ), 0)
}

// EqualKeys is 1, if a and b are the same, else 0.
func EqualKeys(a, b api.Key) uint64 {
	var differ byte
	for i, x := range a {
		differ |= x ^ b[i]
	}
	return Equal(uint64(differ), 0)
}

// PickKey is a, if the bit is 1, else b.
func PickKey(bit uint64, a, b api.Key) api.Key {
	all := byte(spread(bit))
	for i, x := range a {
		b[i] ^= all & (x ^ b[i])
	}
	return b
}

// Swap exchanges a and b, if the bit is 1.
func Swap(bit uint64, a, b *[5]uint64) {
	if a == nil || b == nil {
		return
	}
	all := spread(bit)
	// One array twice differs nowhere from itself, so it needs no question of its own.
	for i := range a {
		differ := all & (a[i] ^ b[i])
		a[i] ^= differ
		b[i] ^= differ
	}
}

// Wipe makes all bytes 0.
func Wipe(b []byte) {
	clear(b)
}

// top is the highest digit of x.
func top(x uint64) uint64 {
	return x >> 63
}

// spread is a word whose digits are all the lowest one of bit.
func spread(bit uint64) uint64 {
	return -(bit & 1)
}
