package mask_test

import (
	"bytes"
	"testing"

	"pintle/api"
	"pintle/mask"
)

const most = 1<<64 - 1

// edges are the numbers at which a borrow or a sign could go astray.
func edges() []uint64 {
	list := []uint64{0, 1, 2, 3, 7, 8, 255, 256, 1<<31 - 1, 1 << 31, 1<<32 - 1, 1 << 32, 1<<32 + 1, 1<<62 - 1, 1 << 62, 1<<63 - 2, 1<<63 - 1, 1 << 63, 1<<63 + 1, 3 << 62, most - 1, most}
	x := uint64(1)
	for range 40 { // a fixed rule, so that every run sees the same numbers
		x = x*6364136223846793005 + 1442695040888963407
		list = append(list, x)
	}
	return list
}

// pairs hands on each two of the edges, each of them beside its neighbours and beside itself with one digit turned.
func pairs(yield func(a, b uint64) bool) {
	for _, a := range edges() {
		for _, b := range edges() {
			if !yield(a, b) {
				return
			}
		}
		for digit := range 64 {
			if b := a ^ 1<<digit; !yield(a, b) || !yield(b, a) {
				return
			}
		}
		if !yield(a, a+1) || !yield(a+1, a) {
			return
		}
	}
}

// bits are odd and even numbers, with the answer that their lowest digit asks for.
func bits() []struct{ bit, low uint64 } {
	return []struct{ bit, low uint64 }{{0, 0}, {1, 1}, {2, 0}, {3, 1}, {4, 0}, {6, 0}, {255, 1}, {256, 0}, {257, 1}, {1 << 32, 0}, {1<<32 + 1, 1}, {1<<63 - 1, 1}, {1 << 63, 0}, {1<<63 + 1, 1}, {most - 1, 0}, {most, 1}}
}

func asBit(is bool) uint64 {
	if is {
		return 1
	}
	return 0
}

// keyOf is a key whose bytes are all different, another one for each start.
func keyOf(start byte) (k api.Key) {
	for i := range k {
		k[i] = start + byte(i)*7
	}
	return k
}

func TestEqualAndLess(t *testing.T) { // P1.1
	for _, x := range []struct{ a, b, equal, less uint64 }{
		{7, 7, 1, 0}, {7, 8, 0, 1}, {8, 7, 0, 0},
		{0, 0, 1, 0}, {most, most, 1, 0}, {0, most, 0, 1}, {most, 0, 0, 0},
		{1 << 63, 1<<63 - 1, 0, 0}, {1<<63 - 1, 1 << 63, 0, 1}, {1 << 63, 1 << 63, 1, 0},
		{0, 1 << 63, 0, 1}, {1 << 63, 0, 0, 0}, {most - 1, most, 0, 1},
	} {
		if e, l := mask.Equal(x.a, x.b), mask.Less(x.a, x.b); e != x.equal || l != x.less {
			t.Errorf("%d, %d: Equal %d, Less %d", x.a, x.b, e, l)
		}
	}
	for a, b := range pairs {
		if got := mask.Equal(a, b); got != asBit(a == b) {
			t.Errorf("Equal(%d, %d) is %d", a, b, got)
		}
		if got := mask.Less(a, b); got != asBit(a < b) {
			t.Errorf("Less(%d, %d) is %d", a, b, got)
		}
	}
}

func TestPick(t *testing.T) { // P1.2
	for _, x := range bits() {
		for _, two := range [][2]uint64{{5, 9}, {9, 5}, {0, most}, {most, 0}, {1 << 63, 1}, {6, 6}} {
			want := two[1]
			if x.low == 1 {
				want = two[0]
			}
			if got := mask.Pick(x.bit, two[0], two[1]); got != want {
				t.Errorf("Pick(%d, %d, %d) is %d", x.bit, two[0], two[1], got)
			}
		}
	}
}

func TestEqualTags(t *testing.T) { // P1.3
	long := keyOf(11)
	a := api.Tag(long[:16])
	if mask.EqualTags(a, a) != 1 || mask.EqualTags(api.Tag{}, api.Tag{}) != 1 {
		t.Error("a tag is not the same as itself")
	}
	for i := range a {
		for digit := range 8 {
			b := a
			b[i] ^= 1 << digit
			if mask.EqualTags(a, b) != 0 || mask.EqualTags(b, a) != 0 {
				t.Errorf("byte %d, digit %d", i, digit)
			}
		}
	}
	b := a
	b[0], b[15] = a[15], a[0]
	if mask.EqualTags(a, b) != 0 {
		t.Error("the same bytes in other places")
	}
	b = a
	b[3] ^= 128
	b[9] ^= 128
	if mask.EqualTags(a, b) != 0 {
		t.Error("two like differences")
	}
}

func TestEqualKeys(t *testing.T) { // P1.3
	a := keyOf(200)
	if mask.EqualKeys(a, a) != 1 || mask.EqualKeys(api.Key{}, api.Key{}) != 1 {
		t.Error("a key is not the same as itself")
	}
	for i := range a {
		for digit := range 8 {
			b := a
			b[i] ^= 1 << digit
			if mask.EqualKeys(a, b) != 0 || mask.EqualKeys(b, a) != 0 {
				t.Errorf("byte %d, digit %d", i, digit)
			}
		}
	}
	b := a
	b[0], b[31] = a[31], a[0]
	if mask.EqualKeys(a, b) != 0 {
		t.Error("the same bytes in other places")
	}
	b = a
	b[3] ^= 128
	b[29] ^= 128
	if mask.EqualKeys(a, b) != 0 {
		t.Error("two like differences")
	}
}

func TestPickKey(t *testing.T) { // P1.3
	a, b := keyOf(1), keyOf(90)
	for _, x := range bits() {
		want := b
		if x.low == 1 {
			want = a
		}
		if got := mask.PickKey(x.bit, a, b); got != want {
			t.Errorf("PickKey(%d, a, b) is %x", x.bit, got)
		}
		if got := mask.PickKey(x.bit, a, a); got != a {
			t.Errorf("PickKey(%d, a, a) is %x", x.bit, got)
		}
	}
	if a != keyOf(1) || b != keyOf(90) {
		t.Error("what was handed in has changed")
	}
}

func TestSwap(t *testing.T) { // P1.4
	a, b := [5]uint64{1, 2, 3, 4, 5}, [5]uint64{6, 7, 1 << 63, 0, most}
	for _, x := range bits() {
		p, q := a, b
		mask.Swap(x.bit, &p, &q)
		wantP, wantQ := a, b
		if x.low == 1 {
			wantP, wantQ = b, a
		}
		if p != wantP || q != wantQ {
			t.Errorf("Swap by %d: %d, %d", x.bit, p, q)
		}
	}
}

func TestSwapOfNothing(t *testing.T) { // P1.4
	a, b := [5]uint64{1, 2, 3, 4, most}, [5]uint64{6, 7, 8, 9, 10}
	p, q := a, b
	for _, x := range bits() {
		mask.Swap(x.bit, nil, &q)
		mask.Swap(x.bit, &p, nil)
		mask.Swap(x.bit, nil, nil)
		mask.Swap(x.bit, &p, &p)
		if p != a || q != b {
			t.Fatalf("Swap by %d, with nil or with one array twice: %d, %d", x.bit, p, q)
		}
	}
}

func TestWipe(t *testing.T) { // P1.5
	whole := []byte("crate")
	mask.Wipe(whole)
	if !bytes.Equal(whole, make([]byte, 5)) {
		t.Errorf("a whole list: %q", whole)
	}
	long := bytes.Repeat([]byte{0xa5}, 70000)
	for _, size := range []int{0, 1, 7, 8, 15, 16, 17, 63, 64, 65, 4096, 69000} {
		list := bytes.Clone(long)
		mask.Wipe(list[100 : 100+size])
		if !bytes.Equal(list[:100], long[:100]) {
			t.Errorf("%d bytes: what lies ahead has changed", size)
		}
		if !bytes.Equal(list[100:100+size], make([]byte, size)) {
			t.Errorf("%d bytes: not all are 0", size)
		}
		if !bytes.Equal(list[100+size:], long[100+size:]) {
			t.Errorf("%d bytes: what lies behind has changed", size)
		}
	}
	mask.Wipe(nil)
	mask.Wipe([]byte{})
}

func TestWhatFollows(t *testing.T) { // P1.6
	for a, b := range pairs {
		below, above, same := mask.Less(a, b), mask.Less(b, a), mask.Equal(a, b)
		if below > 1 || above > 1 || same > 1 || below+above+same != 1 {
			t.Errorf("%d, %d: Less %d, Less the other way %d, Equal %d", a, b, below, above, same)
		}
		if got := mask.Pick(mask.Less(a, b), a, b); got != min(a, b) {
			t.Errorf("the lower one of %d and %d by Pick is %d", a, b, got)
		}
	}
	a, b := [5]uint64{most, 0, 3, 1 << 63, 5}, [5]uint64{6, 7, 8, 9, 10}
	p, q := a, b
	for _, x := range bits() {
		mask.Swap(x.bit, &p, &q)
		mask.Swap(x.bit, &p, &q)
		if p != a || q != b {
			t.Fatalf("Swap twice by %d: %d, %d", x.bit, p, q)
		}
	}
	k, l := keyOf(40), keyOf(41)
	if mask.EqualKeys(k, mask.PickKey(1, k, l)) != 1 || mask.EqualKeys(k, mask.PickKey(0, k, l)) != 0 || mask.EqualKeys(l, mask.PickKey(0, k, l)) != 1 {
		t.Error("EqualKeys of what PickKey picked")
	}
}
