package stream

import "testing"

// quarterCase is four words and what a quarter round makes of them.
type quarterCase struct{ in, out [4]uint32 }

// quarterCases are the document's example, RFC 8439's, and zeros, which stay.
func quarterCases() [4]quarterCase {
	return [4]quarterCase{
		{[4]uint32{1, 2, 3, 4}, [4]uint32{1879052291, 2341059003, 118948723, 118489968}},
		{[4]uint32{0x11111111, 0x01020304, 0x9b8d6f43, 0x01234567}, [4]uint32{0xea2a92f4, 0xcb1cf8ce, 0x4581472e, 0x5881c4bb}},
		{[4]uint32{0x516461b1, 0x2a5f714c, 0x53372767, 0x3d631689}, [4]uint32{0xbdb886dc, 0xcfacafd2, 0xe46bea80, 0xccc07c79}},
		{},
	}
}

// P6.1: one quarter round by itself.
func TestQuarter(t *testing.T) {
	for _, x := range quarterCases() {
		w := x.in
		quarter(&w[0], &w[1], &w[2], &w[3])
		if w != x.out {
			t.Errorf("a quarter round of %d: %d, not %d", x.in, w, x.out)
		}
	}
}

// P6.1, P6.2: of four blocks side by side each goes its own way.
func TestQuarters(t *testing.T) {
	var rows, want [4][lanes]uint32
	for lane, x := range quarterCases() {
		for i := range 4 {
			rows[i][lane], want[i][lane] = x.in[i], x.out[i]
		}
	}
	quarters(&rows[0], &rows[1], &rows[2], &rows[3])
	if rows != want {
		t.Errorf("%d, not %d", rows, want)
	}
}
