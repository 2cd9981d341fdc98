package digest

import "testing"

// P8.1: counts of more than 32 digits, which no message of a test comes to.
func TestPressCounts(t *testing.T) {
	var block [blockSize]byte
	for i := range block {
		block[i] = byte(i)
	}
	for _, x := range []struct {
		count uint64
		mark  uint32
		want  [8]uint32
	}{
		{1<<32 - 1, inner, [8]uint32{0xec24cdeb, 0xad90aa98, 0x9cd9a99f, 0x060f04de, 0x15446ce2, 0xa75ce9d3, 0x7733ce26, 0x496541c3}},
		{1 << 32, inner, [8]uint32{0xc99082f2, 0xe480ea77, 0x4596d3ac, 0xe0426cc0, 0x9569472c, 0x7157858e, 0xe7627049, 0x57981148}},
		{1<<32 + 64, last, [8]uint32{0xee2d11ee, 0x2a26b084, 0x1fc117cb, 0xdf9b7bbc, 0xd24ab691, 0x994d4dcf, 0x22acb65d, 0xd6469683}},
		{0x123456789abcdef0, last, [8]uint32{0x4b402d7e, 0x7a1913cc, 0xa3a16f94, 0x163fb0b0, 0x2d59cff3, 0xccdf4d6e, 0xd95099ef, 0x43cebc15}},
		{1<<64 - 1, inner, [8]uint32{0x1b6bdc2d, 0x3b47cb0e, 0xea413846, 0xc001f375, 0x82e5729b, 0x61a2ca40, 0xebddb428, 0x95b96c61}},
	} {
		state := [8]uint32{1, 2, 3, 4, 5, 6, 7, 8}
		press(&state, &block, x.count, x.mark)
		if state != x.want {
			t.Errorf("pressed with the count %d: %x, not %x", x.count, state, x.want)
		}
	}
}

// P8.1: a Hash goes on counting beyond 2^32.
func TestCountsOn(t *testing.T) {
	h, _ := New(nil, maxSize, nil)
	h.pressed = 1<<32 - 2*blockSize
	h.Write(make([]byte, 3*blockSize+1))
	if h.pressed != 1<<32+blockSize || h.held != 1 {
		t.Errorf("%d bytes are pressed, %d are held", h.pressed, h.held)
	}
}

// P8.1: the beginning is read alone: no press and no Hash changes it.
func TestBeginningStays(t *testing.T) {
	was := beginning
	Of(nil, make([]byte, 1000))
	if beginning != was {
		t.Errorf("%x, not %x", beginning, was)
	}
}
