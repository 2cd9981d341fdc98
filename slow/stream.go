package slow

import (
	"math/bits"

	"pintle/api"
)

const streamBlock = 64 // bytes of a block of the stream

// constants are the words that every state begins with.
var constants = [4]uint32{0x61707865, 0x3320646e, 0x79622d32, 0x6b206574}

// Block is 64 bytes of the stream.
func Block(key api.Key, counter uint32, nonce api.Nonce) [64]byte {
	start := begun(key, counter, nonce)
	v := start
	for range 10 {
		for _, p := range places {
			quarter(&v, p)
		}
	}
	for i := range v {
		v[i] += start[i]
	}
	var block [streamBlock]byte
	for i := range block {
		block[i] = byteOf(v[:], i)
	}
	return block
}

// XOR turns buf, in place, by the stream from that block on.
func XOR(key api.Key, counter uint32, nonce api.Nonce, buf []byte) {
	var block [streamBlock]byte
	for i := range buf {
		if i%streamBlock == 0 {
			block = Block(key, counter+uint32(i/streamBlock), nonce)
		}
		buf[i] ^= block[i%streamBlock]
	}
}

// begun is the state ahead of its rounds.
func begun(key api.Key, counter uint32, nonce api.Nonce) (state [16]uint32) {
	for i, w := range constants {
		state[i] = w
	}
	copy(state[4:], words(key[:]))
	state[12] = counter
	copy(state[13:], words(nonce[:]))
	return state
}

// quarter is a quarter round of the words at these places.
func quarter(v *[16]uint32, p [4]int) {
	a, b, c, d := &v[p[0]], &v[p[1]], &v[p[2]], &v[p[3]]
	*a += *b
	*d = bits.RotateLeft32(*d^*a, 16)
	*c += *d
	*b = bits.RotateLeft32(*b^*c, 12)
	*a += *b
	*d = bits.RotateLeft32(*d^*a, 8)
	*c += *d
	*b = bits.RotateLeft32(*b^*c, 7)
}
