package field_test

import (
	"fmt"
	"math"
	"math/big"
	"slices"
	"testing"

	"pintle/api"
	"pintle/field"
	"pintle/trace"
)

func num(n int64) *big.Int { return big.NewInt(n) }

// power is 2^n and so many more.
func power(n uint, more int64) *big.Int {
	return new(big.Int).Add(new(big.Int).Lsh(num(1), n), num(more))
}

func prime() *big.Int { return power(255, -19) }

// below is n without p, as often as it can be taken away or has to be added.
func below(n *big.Int) *big.Int { return new(big.Int).Mod(n, prime()) }

// bytesOf is a number from 0 to 2^256 - 1 in bytes, the lowest one first.
func bytesOf(n *big.Int) (k api.Key) {
	n.FillBytes(k[:])
	slices.Reverse(k[:])
	return k
}

func numberOf(k api.Key) *big.Int {
	slices.Reverse(k[:])
	return new(big.Int).SetBytes(k[:])
}

func elementOf(n *big.Int) field.Element { return field.Decode(bytesOf(below(n))) }

func small(n int64) field.Element { return elementOf(num(n)) }

// draws are keys by a fixed rule, so that every run sees the same ones.
func draws(n int) []api.Key {
	list := make([]api.Key, n)
	x := uint64(1)
	for i := range list {
		for j := range list[i] {
			x = x*6364136223846793005 + 1442695040888963407
			list[i][j] = byte(x >> 56)
		}
	}
	return list
}

// edges are numbers below p: both ends, the ends of limbs and of words, and some between.
func edges() []*big.Int {
	list := []*big.Int{num(0), num(1), num(2), num(3), num(18), num(19), num(20), num(38), num(121665), num(math.MaxUint32)}
	for _, less := range []int64{1, 2, 18, 19, 20, 121665} {
		list = append(list, new(big.Int).Sub(prime(), num(less)))
	}
	for _, n := range []uint{51, 64, 102, 128, 153, 192, 204, 254} {
		list = append(list, power(n, -1), power(n, 0), power(n, 1))
	}
	for _, k := range draws(12) {
		list = append(list, below(numberOf(k)))
	}
	return list
}

// few are the edges that stand for all where three are taken at a time.
func few() []*big.Int {
	list := []*big.Int{num(0), num(1), num(19), power(51, -1), power(128, 0), power(204, 1), power(254, -1), power(255, -20)}
	for _, k := range draws(3) {
		list = append(list, below(numberOf(k)))
	}
	return list
}

func mustBe(t *testing.T, what string, got field.Element, want *big.Int) {
	t.Helper()
	if k := bytesOf(below(want)); got.Encode() != k {
		t.Errorf("%s: %x, not %x", what, got.Encode(), k)
	}
}

func mustBeSame(t *testing.T, what string, a, b field.Element) {
	t.Helper()
	if a.Encode() != b.Encode() {
		t.Errorf("%s: %x and %x", what, a.Encode(), b.Encode())
	}
}

func TestExamples(t *testing.T) {
	less := elementOf(power(255, -20)) // p - 1
	end := api.Key{0: 0xec, 31: 0x7f}
	half := api.Key{0: 0xf7, 31: 0x3f}
	for i := 1; i < 31; i++ {
		end[i], half[i] = 0xff, 0xff
	}
	for i, x := range []struct {
		got  field.Element
		want api.Key
	}{
		{field.Element{}, api.Key{}},
		{field.Decode(api.Key{1}), api.Key{1}},
		{field.Decode(bytesOf(power(255, -19))), api.Key{}},
		{field.Decode(bytesOf(power(255, -1))), api.Key{18}},
		{field.Decode(bytesOf(power(256, -1))), api.Key{18}},
		{field.Add(nil, less, small(1)), api.Key{}},
		{field.Sub(nil, small(0), small(1)), end},
		{field.Mul(nil, less, less), api.Key{1}},
		{field.Square(nil, elementOf(power(128, 0))), api.Key{38}},
		{field.Scale(nil, less, 121665), bytesOf(power(255, -19-121665))},
		{field.Scale(nil, small(7), 0), api.Key{}},
		{field.Invert(nil, small(1)), api.Key{1}},
		{field.Invert(nil, small(0)), api.Key{}},
		{field.Invert(nil, less), end},
		{field.Invert(nil, small(2)), half},
	} {
		if got := x.got.Encode(); got != x.want {
			t.Errorf("row %d: %x, not %x", i, got, x.want)
		}
	}
}

// P3.1
func TestZero(t *testing.T) {
	var zero field.Element
	if zero.Encode() != (api.Key{}) {
		t.Errorf("the zero Element is %x", zero.Encode())
	}
	for _, n := range edges() {
		a := elementOf(n)
		mustBe(t, fmt.Sprint(n, " + 0"), field.Add(nil, a, zero), n)
		mustBe(t, fmt.Sprint("0 + ", n), field.Add(nil, zero, a), n)
		mustBe(t, fmt.Sprint(n, " - 0"), field.Sub(nil, a, zero), n)
		mustBe(t, fmt.Sprint("0 - ", n), field.Sub(nil, zero, a), new(big.Int).Neg(n))
		mustBe(t, fmt.Sprint(n, " * 0"), field.Mul(nil, a, zero), num(0))
		mustBe(t, fmt.Sprint("0 * ", n), field.Mul(nil, zero, a), num(0))
	}
	mustBe(t, "0 squared", field.Square(nil, zero), num(0))
	mustBe(t, "0 scaled", field.Scale(nil, zero, math.MaxUint32), num(0))
	mustBe(t, "0 inverted", field.Invert(nil, zero), num(0))
}

// pool is Elements that are never encoded on the way, and the numbers that they are.
type pool struct {
	elements []field.Element
	numbers  []*big.Int
}

func newPool(numbers []*big.Int) *pool {
	w := &pool{numbers: slices.Clone(numbers)}
	for _, n := range numbers {
		w.elements = append(w.elements, elementOf(n))
	}
	return w
}

// step asks one call, which of them x says, of the Elements i and j, and lays the answer down as k.
func (w *pool) step(x uint32, i, j, k int) {
	a, b := w.elements[i], w.elements[j]
	m, n := w.numbers[i], w.numbers[j]
	var e field.Element
	v := new(big.Int)
	switch x % 16 {
	case 0, 1, 2, 3:
		e, v = field.Add(nil, a, b), v.Add(m, n)
	case 4, 5, 6, 7:
		e, v = field.Sub(nil, a, b), v.Sub(m, n)
	case 8, 9, 10:
		e, v = field.Mul(nil, a, b), v.Mul(m, n)
	case 11, 12:
		e, v = field.Square(nil, a), v.Mul(m, m)
	case 13:
		e, v = field.Scale(nil, a, x), v.Mul(m, num(int64(x)))
	case 14:
		e, v = field.Invert(nil, a), v.Exp(m, power(255, -21), prime())
	case 15:
		field.Swap(nil, uint64(x>>8), &w.elements[i], &w.elements[j])
		if x>>8&1 == 1 {
			w.numbers[i], w.numbers[j] = n, m
		}
		return
	}
	w.elements[k], w.numbers[k] = e, below(v)
}

func (w *pool) check(t *testing.T, what string) {
	t.Helper()
	for i, e := range w.elements {
		mustBe(t, fmt.Sprintf("%s, Element %d", what, i), e, w.numbers[i])
	}
}

// P3.1: what is answered is handed on, in any order.
func TestHandedOn(t *testing.T) {
	x := uint32(1)
	next := func() uint32 {
		x = x*1664525 + 1013904223
		return x>>16 ^ x<<16
	}
	for round := range 60 {
		w := newPool(few())
		for range 1 + round*5 {
			n := len(w.elements)
			w.step(next(), int(next()%uint32(n)), int(next()%uint32(n)), int(next()%uint32(n)))
		}
		w.check(t, fmt.Sprint("round ", round))
	}
}

// P3.1: one call alone, on and on, is what would make limbs grow.
func TestOnAndOn(t *testing.T) {
	for _, n := range edges() {
		a := elementOf(n)
		sum, less, scaled, product, square := a, a, a, a, a
		for range 200 {
			sum = field.Add(nil, sum, sum)
			less = field.Sub(nil, less, field.Sub(nil, a, less))
			scaled = field.Scale(nil, scaled, math.MaxUint32)
			product = field.Mul(nil, product, a)
			square = field.Square(nil, square)
		}
		two := power(200, 0)
		mustBe(t, fmt.Sprint("doubled: ", n), sum, new(big.Int).Mul(n, two))
		mustBe(t, fmt.Sprint("taken away: ", n), less, n)
		mustBe(t, fmt.Sprint("scaled: ", n), scaled, new(big.Int).Mul(n, new(big.Int).Exp(num(math.MaxUint32), num(200), prime())))
		mustBe(t, fmt.Sprint("multiplied: ", n), product, new(big.Int).Exp(n, num(201), prime()))
		mustBe(t, fmt.Sprint("squared: ", n), square, new(big.Int).Exp(n, two, prime()))
	}
}

// P3.1: the answers of all calls, each handed to each call on either side.
func TestEachToEach(t *testing.T) {
	for _, n := range few() {
		for _, m := range few() {
			w := newPool([]*big.Int{n, m, num(0), num(0), num(0), num(0), num(0), num(0)})
			for at, call := range []uint32{0, 4, 8, 11, 13, 14} {
				w.step(call, 0, 1, at+2)
			}
			for i := range w.elements {
				for j := range w.elements {
					for _, call := range []uint32{0, 4, 8, 11, 16*200000000 + 13} {
						v := newPool(nil)
						v.elements, v.numbers = slices.Clone(w.elements), slices.Clone(w.numbers)
						v.step(call, i, j, 0)
						mustBe(t, fmt.Sprint(n, m, i, j, call), v.elements[0], v.numbers[0])
					}
				}
			}
		}
	}
}

// P3.2: the lowest byte stands first, each of them in its place.
func TestDecodeBytes(t *testing.T) {
	for i := range 32 {
		for _, x := range []byte{1, 2, 0x55, 0x7f, 0x80, 0xaa, 0xff} {
			var k api.Key
			k[i] = x
			want := numberOf(k)
			want.SetBit(want, 255, 0)
			mustBe(t, fmt.Sprintf("byte %d is %x", i, x), field.Decode(k), want)
		}
	}
	mustBe(t, "255 + 1", field.Add(nil, field.Decode(api.Key{255}), field.Decode(api.Key{1})), num(256))
	mustBe(t, "256 * 256", field.Mul(nil, field.Decode(api.Key{1: 1}), field.Decode(api.Key{1: 1})), num(65536))
}

// P3.2: the highest digit says nothing.
func TestDecodeHighest(t *testing.T) {
	for _, k := range append(draws(50), api.Key{}, bytesOf(power(255, -20)), bytesOf(power(255, -19)), bytesOf(power(255, -1))) {
		without, with := k, k
		without[31] &= 0x7f
		with[31] |= 0x80
		mustBe(t, fmt.Sprintf("%x", without), field.Decode(without), numberOf(without))
		mustBe(t, fmt.Sprintf("%x", with), field.Decode(with), numberOf(without))
	}
}

// P3.2: p to 2^255 - 1 are 0 to 18, whatever is done with them.
func TestDecodeAbove(t *testing.T) {
	for n := range int64(19) {
		k := bytesOf(power(255, n-19))
		for range 2 {
			a := field.Decode(k)
			mustBe(t, fmt.Sprint("p + ", n), a, num(n))
			mustBe(t, fmt.Sprint("p + ", n, ", thrice"), field.Add(nil, a, field.Add(nil, a, a)), num(3*n))
			mustBe(t, fmt.Sprint("p + ", n, ", from 0"), field.Sub(nil, small(0), a), num(-n))
			mustBe(t, fmt.Sprint("p + ", n, ", squared"), field.Mul(nil, a, a), num(n*n))
			mustBe(t, fmt.Sprint("p + ", n, ", scaled"), field.Scale(nil, a, 1000), num(1000*n))
			k[31] |= 0x80
		}
	}
}

// P3.3
func TestEncode(t *testing.T) {
	for _, n := range edges() {
		got := elementOf(n).Encode()
		if got != bytesOf(n) {
			t.Errorf("%d: %x", n, got)
		}
	}
	if got := small(0x030201).Encode(); got != (api.Key{1, 2, 3}) {
		t.Errorf("the lowest byte stands first: %x", got)
	}
}

// P3.3: sums that come to p and above; differences that fall below 0.
func TestEncodeSums(t *testing.T) {
	less := elementOf(power(255, -20)) // p - 1
	for n := range int64(60) {
		for _, from := range []struct {
			e field.Element
			n *big.Int
		}{{less, num(-1)}, {field.Decode(bytesOf(power(255, -1))), num(18)}, {field.Add(nil, less, less), num(-2)}} {
			sum := field.Add(nil, from.e, small(n))
			mustBe(t, fmt.Sprint(from.n, " + ", n), sum, new(big.Int).Add(from.n, num(n)))
			if top := sum.Encode()[31]; top > 0x7f {
				t.Errorf("%d + %d: the last byte is %x", from.n, n, top)
			}
			mustBe(t, fmt.Sprint(from.n, " - ", n), field.Sub(nil, from.e, small(n)), new(big.Int).Sub(from.n, num(n)))
			mustBe(t, fmt.Sprint(n, " - ", from.n), field.Sub(nil, small(n), from.e), new(big.Int).Sub(num(n), from.n))
		}
	}
}

// P3.4
func TestReckoning(t *testing.T) {
	for _, m := range edges() {
		a := elementOf(m)
		mustBe(t, fmt.Sprint(m, " squared"), field.Square(nil, a), new(big.Int).Mul(m, m))
		for _, n := range edges() {
			b := elementOf(n)
			mustBe(t, fmt.Sprint(m, " + ", n), field.Add(nil, a, b), new(big.Int).Add(m, n))
			mustBe(t, fmt.Sprint(m, " - ", n), field.Sub(nil, a, b), new(big.Int).Sub(m, n))
			mustBe(t, fmt.Sprint(m, " * ", n), field.Mul(nil, a, b), new(big.Int).Mul(m, n))
		}
		for _, n := range []uint32{0, 1, 2, 19, 121665, 1 << 16, 1<<31 - 1, 1 << 31, math.MaxUint32 - 1, math.MaxUint32} {
			mustBe(t, fmt.Sprint(m, " scaled by ", n), field.Scale(nil, a, n), new(big.Int).Mul(m, num(int64(n))))
		}
	}
}

// P3.5
func TestInvert(t *testing.T) {
	mustBe(t, "of 0", field.Invert(nil, small(0)), num(0))
	mustBe(t, "of p", field.Invert(nil, field.Decode(bytesOf(prime()))), num(0))
	mustBe(t, "of 1", field.Invert(nil, small(1)), num(1))
	mustBe(t, "of p - 1", field.Invert(nil, small(-1)), num(-1))
	for _, n := range edges()[1:] {
		mustBe(t, fmt.Sprint("of ", n), field.Invert(nil, elementOf(n)), new(big.Int).ModInverse(n, prime()))
	}
}

// P3.6
func TestSwap(t *testing.T) {
	for _, bit := range []uint64{0, 1, 2, 3, 6, 7, 255, 256, 1 << 32, 1<<32 + 1, 1<<63 - 1, 1 << 63, 1<<63 + 1, math.MaxUint64 - 1, math.MaxUint64} {
		for _, m := range few() {
			for _, n := range few() {
				a, b := elementOf(m), elementOf(n)
				field.Swap(nil, bit, &a, &b)
				first, second := m, n
				if bit%2 == 1 {
					first, second = n, m
				}
				mustBe(t, fmt.Sprintf("the first, bit %x", bit), a, first)
				mustBe(t, fmt.Sprintf("the second, bit %x", bit), b, second)
			}
			a := elementOf(m)
			field.Swap(nil, bit, &a, nil)
			field.Swap(nil, bit, nil, &a)
			field.Swap(nil, bit, nil, nil)
			mustBe(t, fmt.Sprintf("with nil, bit %x", bit), a, m)
			field.Swap(nil, bit, &a, &a)
			mustBe(t, fmt.Sprintf("with itself, bit %x", bit), a, m)
		}
	}
}

// P3.6: Elements as they come out of sums change their values too.
func TestSwapOfSums(t *testing.T) {
	less := elementOf(power(255, -20))
	a, b := field.Add(nil, less, less), field.Sub(nil, small(0), less)
	field.Swap(nil, 1, &a, &b)
	mustBe(t, "the first", a, num(1))
	mustBe(t, "the second", b, num(-2))
}

// calls are all calls that take a Recorder, with the operation that each logs.
func calls() []struct {
	op  int
	ask func(r *trace.Recorder, a, b field.Element) field.Element
} {
	return []struct {
		op  int
		ask func(r *trace.Recorder, a, b field.Element) field.Element
	}{
		{api.OpAdd, field.Add},
		{api.OpSub, field.Sub},
		{api.OpMul, field.Mul},
		{api.OpSquare, func(r *trace.Recorder, a, b field.Element) field.Element { return field.Square(r, a) }},
		{api.OpScale, func(r *trace.Recorder, a, b field.Element) field.Element { return field.Scale(r, a, 121665) }},
		{api.OpInvert, func(r *trace.Recorder, a, b field.Element) field.Element { return field.Invert(r, a) }},
		{api.OpSwap, func(r *trace.Recorder, a, b field.Element) field.Element {
			field.Swap(r, uint64(a.Encode()[0]), &a, &b)
			return a
		}},
	}
}

// P3.7: one event a call, whatever the numbers; and the same answer without a Recorder.
func TestLogged(t *testing.T) {
	for _, call := range calls() {
		want := []api.Event{{Kind: api.EventOp, Value: call.op}}
		for _, m := range few() {
			for _, n := range few() {
				r := trace.New()
				a, b := elementOf(m), elementOf(n)
				got := call.ask(r, a, b)
				if !slices.Equal(r.Events(), want) {
					t.Errorf("operation %d of %d and %d: %v", call.op, m, n, r.Events())
				}
				mustBeSame(t, fmt.Sprint("operation ", call.op, " with and without a Recorder"), got, call.ask(nil, a, b))
			}
		}
	}
}

// P3.7: call by call, in order, one behind the other; Decode and Encode between them say nothing.
func TestLoggedInOrder(t *testing.T) {
	r := trace.New()
	var want []api.Event
	a, b := small(5), elementOf(power(254, 0))
	for range 3 {
		for _, call := range calls() {
			a = field.Decode(call.ask(r, a, b).Encode())
			want = append(want, api.Event{Kind: api.EventOp, Value: call.op})
		}
	}
	if !slices.Equal(r.Events(), want) {
		t.Errorf("%v, not %v", r.Events(), want)
	}
}

// P3.7: of a Swap, an even bit and one Element twice are events, nil is none.
func TestLoggedSwap(t *testing.T) {
	r := trace.New()
	a, b := small(3), small(4)
	for i, x := range []struct {
		bit  uint64
		a, b *field.Element
		more int
	}{{1, &a, &b, 1}, {6, &a, &b, 1}, {0, &a, &b, 1}, {1, &a, &a, 1}, {0, &a, &a, 1}, {1, &a, nil, 0}, {1, nil, &a, 0}, {1, nil, nil, 0}, {0, nil, &b, 0}} {
		ahead := r.Total()
		field.Swap(r, x.bit, x.a, x.b)
		if more := r.Total() - ahead; more != x.more {
			t.Errorf("row %d: %d events", i, more)
		}
	}
	for e := range r.Since(0) {
		if e != (api.Event{Kind: api.EventOp, Value: api.OpSwap}) {
			t.Errorf("%v", e)
		}
	}
}

// P3.8: the rules of sums and products.
func TestRules(t *testing.T) {
	r := trace.New() // the rules hold with one, too
	add := func(a, b field.Element) field.Element { return field.Add(r, a, b) }
	mul := func(a, b field.Element) field.Element { return field.Mul(r, a, b) }
	for _, l := range few() {
		for _, m := range few() {
			a, b := elementOf(l), elementOf(m)
			mustBeSame(t, "a + b, b + a", add(a, b), add(b, a))
			mustBeSame(t, "a * b, b * a", mul(a, b), mul(b, a))
			mustBeSame(t, "a - b + b, a", add(field.Sub(r, a, b), b), a)
			for _, n := range few() {
				c := elementOf(n)
				mustBeSame(t, "(a + b) + c, a + (b + c)", add(add(a, b), c), add(a, add(b, c)))
				mustBeSame(t, "(a * b) * c, a * (b * c)", mul(mul(a, b), c), mul(a, mul(b, c)))
				mustBeSame(t, "a * (b + c), a * b + a * c", mul(a, add(b, c)), add(mul(a, b), mul(a, c)))
			}
		}
	}
}

// P3.8: Square and Scale are Mul.
func TestRulesOfMul(t *testing.T) {
	for _, n := range edges() {
		a := elementOf(n)
		mustBeSame(t, fmt.Sprint("Square of ", n), field.Square(nil, a), field.Mul(nil, a, a))
		for _, by := range []uint32{0, 1, 7, 121665, math.MaxUint32} {
			mustBeSame(t, fmt.Sprint("Scale of ", n, " by ", by), field.Scale(nil, a, by), field.Mul(nil, a, small(int64(by))))
		}
	}
}

// P3.8: Decode and Encode are each other's way back.
func TestRulesOfBytes(t *testing.T) {
	for _, n := range edges() {
		k := bytesOf(n)
		if got := field.Decode(k).Encode(); got != k {
			t.Errorf("%x came back as %x", k, got)
		}
		for _, m := range few() {
			for _, call := range calls() {
				a := call.ask(nil, elementOf(n), elementOf(m))
				back := field.Decode(a.Encode())
				mustBeSame(t, fmt.Sprint("operation ", call.op, " through bytes"), back, a)
				mustBe(t, fmt.Sprint("operation ", call.op, " and the same through bytes, apart"), field.Sub(nil, a, back), num(0))
			}
		}
	}
}

// P3.8: what Invert and 0 have to do with Mul.
func TestRulesOfInvert(t *testing.T) {
	for _, n := range edges() {
		a := elementOf(n)
		mustBeSame(t, fmt.Sprint("inverted twice: ", n), field.Invert(nil, field.Invert(nil, a)), a)
		if n.Sign() != 0 {
			mustBe(t, fmt.Sprint("by what it is inverted: ", n), field.Mul(nil, a, field.Invert(nil, a)), num(1))
		}
		for _, m := range edges() {
			isZero := field.Mul(nil, a, elementOf(m)).Encode() == (api.Key{})
			if isZero != (n.Sign() == 0 || m.Sign() == 0) {
				t.Errorf("%d * %d is 0: %v", n, m, isZero)
			}
		}
	}
}
