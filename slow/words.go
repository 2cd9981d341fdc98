package slow

// places are the four words out of sixteen that are mixed with one another, eight times over; the stream and the digest have them alike.
var places = [8][4]int{
	{0, 4, 8, 12}, {1, 5, 9, 13}, {2, 6, 10, 14}, {3, 7, 11, 15},
	{0, 5, 10, 15}, {1, 6, 11, 12}, {2, 7, 8, 13}, {3, 4, 9, 14},
}

// words is as many words as bytes give, of each the lowest byte first.
func words(list []byte) []uint32 {
	all := make([]uint32, len(list)/4)
	for i := range all {
		for j := range 4 {
			all[i] |= uint32(list[4*i+j]) << (8 * j)
		}
	}
	return all
}

// byteOf is the byte at that place of words, of each the lowest byte first.
func byteOf(all []uint32, at int) byte {
	return byte(all[at/4] >> (at % 4 * 8))
}
