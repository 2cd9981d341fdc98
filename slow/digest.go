package slow

import (
	"math/bits"

	"pintle/api"
)

const (
	digestBlock = 64 // bytes of a block of a message that is digested
	maxSize     = 32 // bytes of the longest digest
	maxKey      = 32 // bytes of the longest key
)

// beginning is the state ahead of all that goes into it.
var beginning = [8]uint32{
	0x6a09e667, 0xbb67ae85, 0x3c6ef372, 0xa54ff53a,
	0x510e527f, 0x9b05688c, 0x1f83d9ab, 0x5be0cd19,
}

// orders tell, a row a round, which of a block's words are mixed in one behind the other.
var orders = [10][16]byte{
	{0, 1, 2, 3, 4, 5, 6, 7, 8, 9, 10, 11, 12, 13, 14, 15},
	{14, 10, 4, 8, 9, 15, 13, 6, 1, 12, 0, 2, 11, 7, 5, 3},
	{11, 8, 12, 0, 5, 2, 15, 13, 10, 14, 3, 6, 7, 1, 9, 4},
	{7, 9, 3, 1, 13, 12, 11, 14, 2, 6, 5, 10, 4, 0, 15, 8},
	{9, 0, 5, 7, 2, 4, 10, 15, 14, 1, 11, 12, 6, 8, 3, 13},
	{2, 12, 6, 10, 0, 11, 8, 3, 4, 13, 7, 5, 15, 14, 1, 9},
	{12, 5, 1, 15, 14, 13, 4, 10, 0, 7, 6, 3, 9, 2, 8, 11},
	{13, 11, 7, 14, 12, 1, 3, 9, 5, 0, 15, 4, 8, 6, 2, 10},
	{6, 15, 14, 9, 11, 3, 0, 8, 12, 2, 13, 7, 1, 4, 10, 5},
	{10, 2, 8, 4, 7, 6, 1, 5, 15, 11, 9, 14, 3, 12, 13, 0},
}

// Digest is the digest of that size, keyed or not, of pieces, one behind the other.
func Digest(size int, key []byte, pieces ...[]byte) ([]byte, error) {
	if size < 1 || size > maxSize || len(key) > maxKey {
		return nil, api.ErrArg
	}
	state := beginning
	state[0] ^= 0x01010000 + 256*uint32(len(key)) + uint32(size)
	var block [digestBlock]byte
	held, count := 0, uint64(0)
	take := func(b byte) {
		// A whole block waits for the next byte: without one it is the last, which is pressed in another way.
		if held == digestBlock {
			press(&state, block, count, false)
			block, held = [digestBlock]byte{}, 0
		}
		block[held] = b
		held++
		count++
	}
	each([][]byte{filled(key)}, take)
	each(pieces, take)
	press(&state, block, count, true)
	sum := make([]byte, size)
	for i := range sum {
		sum[i] = byteOf(state[:], i)
	}
	return sum, nil
}

// filled is the block that goes ahead of a message; without a key there is none.
func filled(key []byte) []byte {
	if len(key) == 0 {
		return nil
	}
	block := make([]byte, digestBlock)
	copy(block, key)
	return block
}

// press brings a block into the state; count is how many bytes there are up to its end.
func press(state *[8]uint32, block [digestBlock]byte, count uint64, last bool) {
	var v [16]uint32
	for i := range state {
		v[i], v[8+i] = state[i], beginning[i]
	}
	v[12] ^= uint32(count)
	v[13] ^= uint32(count >> 32)
	if last {
		v[14] = ^v[14]
	}
	m := words(block[:])
	for _, row := range orders {
		for i, p := range places {
			mix(&v, p, m[row[2*i]], m[row[2*i+1]])
		}
	}
	for i := range state {
		state[i] ^= v[i] ^ v[8+i]
	}
}

// mix is a mixing of the words at these places with two of a block.
func mix(v *[16]uint32, p [4]int, x, y uint32) {
	a, b, c, d := &v[p[0]], &v[p[1]], &v[p[2]], &v[p[3]]
	*a += *b + x
	*d = bits.RotateLeft32(*d^*a, -16)
	*c += *d
	*b = bits.RotateLeft32(*b^*c, -12)
	*a += *b + y
	*d = bits.RotateLeft32(*d^*a, -8)
	*c += *d
	*b = bits.RotateLeft32(*b^*c, -7)
}
