package slow

import (
	"math/big"

	"pintle/api"
)

const tagBlock = 16 // bytes of a block of a message that is tagged

// kept is what every multiplier leaves of the key's first bytes.
var kept = [tagBlock]byte{
	0xff, 0xff, 0xff, 0x0f, 0xfc, 0xff, 0xff, 0x0f,
	0xfc, 0xff, 0xff, 0x0f, 0xfc, 0xff, 0xff, 0x0f,
}

// Tag is the tag of pieces, one behind the other.
func Tag(key api.Key, pieces ...[]byte) api.Tag {
	m := below(130, 5)
	by := multiplier(key)
	sum := new(big.Int)
	block := make([]byte, 0, tagBlock+1)
	takeIn := func() {
		// The 1 behind a block makes the zeros at its end count.
		sum = m.mul(m.add(sum, number(append(block, 1))), by)
		block = block[:0]
	}
	each(pieces, func(b byte) {
		block = append(block, b)
		if len(block) == tagBlock {
			takeIn()
		}
	})
	if len(block) > 0 {
		takeIn()
	}
	sum.Add(sum, number(key[tagBlock:]))
	var tag api.Tag
	copy(tag[:], spell(sum, len(tag)))
	return tag
}

// multiplier is the number by which each block's sum is multiplied.
func multiplier(key api.Key) *big.Int {
	for i, k := range kept {
		key[i] &= k
	}
	return number(key[:tagBlock])
}
