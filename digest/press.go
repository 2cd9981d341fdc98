package digest

import "math/bits"

// The marks of a block, as what turns round the digits of a word: so no branch asks for it.
const (
	inner = uint32(0)
	last  = ^inner
)

var beginning = [8]uint32{0x6a09e667, 0xbb67ae85, 0x3c6ef372, 0xa54ff53a, 0x510e527f, 0x9b05688c, 0x1f83d9ab, 0x5be0cd19}

// sixteen is words: those that the rounds mix, or those of a block.
type sixteen [16]uint32

// press brings a block into a state; count is how many bytes there are up to its end.
func press(state *[8]uint32, block *[blockSize]byte, count uint64, mark uint32) {
	var v sixteen
	copy(v[:8], state[:])
	for i, w := range beginning {
		v[8+i] = w
	}
	v[12] ^= uint32(count)
	v[13] ^= uint32(count >> 32)
	v[14] ^= mark
	m := read(block)
	round0(&v, &m)
	round1(&v, &m)
	round2(&v, &m)
	round3(&v, &m)
	round4(&v, &m)
	round5(&v, &m)
	round6(&v, &m)
	round7(&v, &m)
	round8(&v, &m)
	round9(&v, &m)
	for i := range state {
		state[i] ^= v[i] ^ v[i+8]
	}
}

// read is the words of a block.
func read(block *[blockSize]byte) sixteen {
	var m sixteen
	for i := range m {
		b := (*[4]byte)(block[4*i : 4*i+4])
		m[i] = uint32(b[0]) | uint32(b[1])<<8 | uint32(b[2])<<16 | uint32(b[3])<<24
	}
	return m
}

// spell is the bytes of a state.
func spell(state *[8]uint32) [maxSize]byte {
	var all [maxSize]byte
	for i, w := range state {
		b := (*[4]byte)(all[4*i : 4*i+4])
		b[0] = byte(w)
		b[1] = byte(w >> 8)
		b[2] = byte(w >> 16)
		b[3] = byte(w >> 24)
	}
	return all
}

// mix is a mixing of four words with two.
func mix(a, b, c, d *uint32, x, y uint32) {
	*a += *b + x
	*d = bits.RotateLeft32(*d^*a, -16)
	*c += *d
	*b = bits.RotateLeft32(*b^*c, -12)
	*a += *b + y
	*d = bits.RotateLeft32(*d^*a, -8)
	*c += *d
	*b = bits.RotateLeft32(*b^*c, -7)
}

// The sixteen words stand as four rows of four: a round mixes each column, then each diagonal.

func (v *sixteen) column0(x, y uint32) { mix(&v[0], &v[4], &v[8], &v[12], x, y) }

func (v *sixteen) column1(x, y uint32) { mix(&v[1], &v[5], &v[9], &v[13], x, y) }

func (v *sixteen) column2(x, y uint32) { mix(&v[2], &v[6], &v[10], &v[14], x, y) }

func (v *sixteen) column3(x, y uint32) { mix(&v[3], &v[7], &v[11], &v[15], x, y) }

func (v *sixteen) diagonal0(x, y uint32) { mix(&v[0], &v[5], &v[10], &v[15], x, y) }

func (v *sixteen) diagonal1(x, y uint32) { mix(&v[1], &v[6], &v[11], &v[12], x, y) }

func (v *sixteen) diagonal2(x, y uint32) { mix(&v[2], &v[7], &v[8], &v[13], x, y) }

func (v *sixteen) diagonal3(x, y uint32) { mix(&v[3], &v[4], &v[9], &v[14], x, y) }
