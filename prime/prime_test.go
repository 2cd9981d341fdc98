package prime_test

import (
	"fmt"
	"math/big"
	"slices"
	"testing"

	"pintle/api"
	"pintle/prime"
	"pintle/trace"
)

func num(n int64) *big.Int { return big.NewInt(n) }

// power is 2^n and so many more.
func power(n uint, more int64) *big.Int {
	return new(big.Int).Add(new(big.Int).Lsh(num(1), n), num(more))
}

func modulus() *big.Int { return power(130, -5) }

// below is n without p, as often as it can be taken away or has to be added.
func below(n *big.Int) *big.Int { return new(big.Int).Mod(n, modulus()) }

// bytesOf is a number from 0 to 2^136 - 1 in bytes, the lowest one first.
func bytesOf(n *big.Int) (b [17]byte) {
	n.FillBytes(b[:])
	slices.Reverse(b[:])
	return b
}

// worth is the number of any bytes, the lowest one first.
func worth(list []byte) *big.Int {
	list = slices.Clone(list)
	slices.Reverse(list)
	return new(big.Int).SetBytes(list)
}

func numberOf(n *big.Int) prime.Number { return prime.Block(bytesOf(below(n))) }

func small(n int64) prime.Number { return numberOf(num(n)) }

// filled is 17 bytes: the first one, fifteen alike, the last one.
func filled(first, middle, last byte) (b [17]byte) {
	for i := range b {
		b[i] = middle
	}
	b[0], b[16] = first, last
	return b
}

// draws are bytes by a fixed rule, so that every run sees the same ones.
func draws(n int) [][17]byte {
	list := make([][17]byte, n)
	x := uint64(1)
	for i := range list {
		for j := range list[i] {
			x = x*6364136223846793005 + 1442695040888963407
			list[i][j] = byte(x >> 56)
		}
	}
	return list
}

// edges are numbers below p: both ends, the ends of limbs and of words, and some between.
func edges() []*big.Int {
	list := []*big.Int{num(0), num(1), num(2), num(3), num(4), num(5), num(6), num(10), num(319)}
	for _, less := range []int64{1, 2, 4, 5, 6, 319} {
		list = append(list, new(big.Int).Sub(modulus(), num(less)))
	}
	for _, n := range []uint{26, 32, 52, 64, 78, 96, 104, 128, 129} {
		list = append(list, power(n, -1), power(n, 0), power(n, 1))
	}
	for _, b := range draws(12) {
		list = append(list, below(worth(b[:])))
	}
	return list
}

// few are the edges that stand for all where three are taken at a time.
func few() []*big.Int {
	list := []*big.Int{num(0), num(1), num(5), power(26, -1), power(64, 0), power(104, 1), power(128, -1), power(129, 0), power(130, -6)}
	for _, b := range draws(3) {
		list = append(list, below(worth(b[:])))
	}
	return list
}

func mustBe(t *testing.T, what string, got prime.Number, want *big.Int) {
	t.Helper()
	if b := bytesOf(below(want)); got.Bytes() != b {
		t.Errorf("%s: %x, not %x", what, got.Bytes(), b)
	}
}

func mustBeSame(t *testing.T, what string, a, b prime.Number) {
	t.Helper()
	if a.Bytes() != b.Bytes() {
		t.Errorf("%s: %x and %x", what, a.Bytes(), b.Bytes())
	}
}

func TestExamples(t *testing.T) {
	less := prime.Block(filled(0xfa, 0xff, 3)) // p - 1
	for i, x := range []struct {
		got  prime.Number
		want [17]byte
	}{
		{prime.Number{}, [17]byte{}},
		{prime.Block([17]byte{1}), [17]byte{1}},
		{prime.Clamp([16]byte(bytes(16, 0xff))), [17]byte{0xff, 0xff, 0xff, 0x0f, 0xfc, 0xff, 0xff, 0x0f, 0xfc, 0xff, 0xff, 0x0f, 0xfc, 0xff, 0xff, 0x0f}},
		{prime.Block(filled(0xfb, 0xff, 3)), [17]byte{}},
		{prime.Block(filled(0xff, 0xff, 3)), [17]byte{4}},
		{prime.Block(filled(0xff, 0xff, 0xff)), [17]byte{0x3f, 0x01}},
		{prime.Add(nil, less, small(1)), [17]byte{}},
		{prime.Add(nil, less, less), filled(0xf9, 0xff, 3)},
		{prime.Mul(nil, less, less), [17]byte{1}},
		{prime.Mul(nil, prime.Block([17]byte{16: 1}), small(4)), [17]byte{5}},
		{prime.Mul(nil, prime.Block([17]byte{16: 2}), small(2)), [17]byte{5}},
	} {
		if got := x.got.Bytes(); got != x.want {
			t.Errorf("row %d: %x, not %x", i, got, x.want)
		}
	}
}

// bytes is so many of one byte.
func bytes(n int, x byte) []byte { return slices.Repeat([]byte{x}, n) }

// P4.6: the document's examples.
func TestExamplesOfSum(t *testing.T) {
	ones := [16]byte(bytes(16, 0xff))
	for i, x := range []struct {
		of   prime.Number
		with [16]byte
		want api.Tag
	}{
		{prime.Block([17]byte{0: 7, 16: 1}), [16]byte{}, api.Tag{7}},
		{prime.Block(filled(0xff, 0xff, 0)), [16]byte{1}, api.Tag{}},
		{small(1), ones, api.Tag{}},
		{small(0), ones, api.Tag(ones)},
	} {
		if got := x.of.Sum(x.with); got != x.want {
			t.Errorf("row %d: %x, not %x", i, got, x.want)
		}
	}
}

// P4.1
func TestZero(t *testing.T) {
	var zero prime.Number
	if zero.Bytes() != ([17]byte{}) {
		t.Errorf("the zero Number is %x", zero.Bytes())
	}
	if zero.Sum([16]byte{}) != (api.Tag{}) {
		t.Errorf("the zero Number and 0 is %x", zero.Sum([16]byte{}))
	}
	for _, n := range edges() {
		a := numberOf(n)
		mustBe(t, fmt.Sprint(n, " + 0"), prime.Add(nil, a, zero), n)
		mustBe(t, fmt.Sprint("0 + ", n), prime.Add(nil, zero, a), n)
		mustBe(t, fmt.Sprint(n, " * 0"), prime.Mul(nil, a, zero), num(0))
		mustBe(t, fmt.Sprint("0 * ", n), prime.Mul(nil, zero, a), num(0))
	}
}

// pool is Numbers that are never asked for their bytes on the way, and what they are.
type pool struct {
	kept  []prime.Number
	worth []*big.Int
}

func newPool(worth []*big.Int) *pool {
	w := &pool{worth: slices.Clone(worth)}
	for _, n := range worth {
		w.kept = append(w.kept, numberOf(n))
	}
	return w
}

// step asks one call, which of them x says, of the Numbers i and j, and lays the answer down as k.
func (w *pool) step(x uint32, i, j, k int) {
	v := new(big.Int)
	switch x % 2 {
	case 0:
		w.kept[k], v = prime.Add(nil, w.kept[i], w.kept[j]), v.Add(w.worth[i], w.worth[j])
	case 1:
		w.kept[k], v = prime.Mul(nil, w.kept[i], w.kept[j]), v.Mul(w.worth[i], w.worth[j])
	}
	w.worth[k] = below(v)
}

func (w *pool) check(t *testing.T, what string) {
	t.Helper()
	for i, a := range w.kept {
		mustBe(t, fmt.Sprintf("%s, Number %d", what, i), a, w.worth[i])
		tag := bytesOf(w.worth[i])
		if got := a.Sum([16]byte{}); got != api.Tag(tag[:16]) {
			t.Errorf("%s, Number %d: the sum with 0 is %x, not %x", what, i, got, tag[:16])
		}
	}
}

// P4.1: what is answered is handed on, in any order.
func TestHandedOn(t *testing.T) {
	x := uint32(1)
	next := func() uint32 {
		x = x*1664525 + 1013904223
		return x >> 16
	}
	for round := range 200 {
		w := newPool(few())
		for range 1 + round*5 {
			n := uint32(len(w.kept))
			w.step(next(), int(next()%n), int(next()%n), int(next()%n))
		}
		w.check(t, fmt.Sprint("round ", round))
	}
}

// P4.1: one call alone, on and on, is what would make limbs grow.
func TestOnAndOn(t *testing.T) {
	for _, n := range edges() {
		a := numberOf(n)
		doubled, sum, product, square := a, a, a, a
		for range 200 {
			doubled = prime.Add(nil, doubled, doubled)
			sum = prime.Add(nil, a, sum)
			product = prime.Mul(nil, product, a)
			square = prime.Mul(nil, square, square)
		}
		two := power(200, 0)
		mustBe(t, fmt.Sprint("doubled: ", n), doubled, new(big.Int).Mul(n, two))
		mustBe(t, fmt.Sprint("added: ", n), sum, new(big.Int).Mul(n, num(201)))
		mustBe(t, fmt.Sprint("multiplied: ", n), product, new(big.Int).Exp(n, num(201), modulus()))
		mustBe(t, fmt.Sprint("squared: ", n), square, new(big.Int).Exp(n, two, modulus()))
	}
}

// P4.1: a tag is reckoned so, block by block, and asked for its bytes at the end alone.
func TestBlockByBlock(t *testing.T) {
	for _, key := range draws(20) {
		by := prime.Clamp([16]byte(key[:16]))
		byWorth := clamped([16]byte(key[:16]))
		var sum prime.Number
		want := new(big.Int)
		for _, b := range append(draws(100), filled(0xff, 0xff, 0xff), filled(0xff, 0xff, 1), [17]byte{}) {
			sum = prime.Mul(nil, prime.Add(nil, sum, prime.Block(b)), by)
			want = below(want.Mul(want.Add(want, worth(b[:])), byWorth))
		}
		mustBe(t, fmt.Sprintf("%x", key), sum, want)
	}
}

// P4.1: the answers of all calls, each handed to each call on either side.
func TestEachToEach(t *testing.T) {
	for _, b := range append(draws(6), filled(0xff, 0xff, 0xff), filled(0xff, 0xff, 3), filled(0xfb, 0xff, 3), filled(0, 0, 0xfc)) {
		key := [16]byte(b[:16])
		w := &pool{
			kept:  []prime.Number{{}, prime.Block(b), prime.Clamp(key), {}, {}, {}},
			worth: []*big.Int{num(0), below(worth(b[:])), clamped(key), nil, nil, nil},
		}
		w.step(0, 1, 2, 3)
		w.step(1, 1, 2, 4)
		w.step(0, 1, 1, 5)
		for i := range w.kept {
			for j := range w.kept {
				for call := range uint32(2) {
					v := &pool{slices.Clone(w.kept), slices.Clone(w.worth)}
					v.step(call, i, j, 0)
					v.check(t, fmt.Sprintf("%x, %d and %d, call %d", b, i, j, call))
				}
			}
		}
	}
}

// clamped is the number that Clamp is of a key, by big numbers: the digits are counted from the lowest one on.
func clamped(key [16]byte) *big.Int {
	n := worth(key[:])
	for _, last := range []int{31, 63, 95, 127} {
		for less := range 4 {
			n.SetBit(n, last-less, 0)
		}
	}
	for _, first := range []int{32, 64, 96} {
		n.SetBit(n, first, 0)
		n.SetBit(n, first+1, 0)
	}
	return n
}

// P4.2: of each digit alone, and of all but it, whether it is taken away.
func TestClampDigits(t *testing.T) {
	away := map[int]string{}
	for _, at := range []int{3, 7, 11, 15} {
		for digit := 4; digit < 8; digit++ {
			away[8*at+digit] = "high"
		}
	}
	for _, at := range []int{4, 8, 12} {
		away[8*at], away[8*at+1] = "low", "low"
	}
	all := clamped([16]byte(bytes(16, 0xff)))
	for digit := range 128 {
		alone, without := new(big.Int).SetBit(num(0), digit, 1), new(big.Int).SetBit(power(128, -1), digit, 0)
		wantAlone, wantWithout := alone, new(big.Int).SetBit(all, digit, 0)
		if away[digit] != "" {
			wantAlone, wantWithout = num(0), all
		}
		one, rest := bytesOf(alone), bytesOf(without)
		mustBe(t, fmt.Sprintf("digit %d alone", digit), prime.Clamp([16]byte(one[:16])), wantAlone)
		mustBe(t, fmt.Sprintf("all but digit %d", digit), prime.Clamp([16]byte(rest[:16])), wantWithout)
	}
}

// P4.2: keys of any bytes; what Clamp is handed stays as it was.
func TestClamp(t *testing.T) {
	for _, b := range append(draws(100), [17]byte{}, filled(0xff, 0xff, 0xff)) {
		key := [16]byte(b[:16])
		mustBe(t, fmt.Sprintf("%x", key), prime.Clamp(key), clamped(key))
		if key != [16]byte(b[:16]) {
			t.Errorf("%x became %x", b[:16], key)
		}
	}
}

// P4.3: each of the 136 digits, alone and left out.
func TestBlockDigits(t *testing.T) {
	for digit := range 136 {
		alone, without := new(big.Int).SetBit(num(0), digit, 1), new(big.Int).SetBit(power(136, -1), digit, 0)
		mustBe(t, fmt.Sprintf("digit %d alone", digit), prime.Block(bytesOf(alone)), alone)
		mustBe(t, fmt.Sprintf("all but digit %d", digit), prime.Block(bytesOf(without)), without)
	}
}

// P4.3: any bytes, and the lowest one first.
func TestBlock(t *testing.T) {
	for _, b := range draws(500) {
		mustBe(t, fmt.Sprintf("%x", b), prime.Block(b), worth(b[:]))
	}
	mustBe(t, "01 02 03", prime.Block([17]byte{1, 2, 3}), num(0x030201))
	mustBe(t, "17 bytes ff", prime.Block(filled(0xff, 0xff, 0xff)), num(319))
}

// P4.3: numbers of p and above, beside every number of times that p goes into 136 digits.
func TestBlockAbove(t *testing.T) {
	for times := int64(1); times <= 64; times++ {
		p := new(big.Int).Mul(modulus(), num(times))
		for more := int64(-6); more <= 6; more++ {
			n := new(big.Int).Add(p, num(more))
			a := prime.Block(bytesOf(n))
			mustBe(t, fmt.Sprint(times, " p + ", more), a, num(more))
			mustBe(t, fmt.Sprint(times, " p + ", more, ", doubled"), prime.Add(nil, a, a), num(2*more))
			mustBe(t, fmt.Sprint(times, " p + ", more, ", squared"), prime.Mul(nil, a, a), num(more*more))
		}
	}
}

// P4.4
func TestReckoning(t *testing.T) {
	for _, m := range edges() {
		for _, n := range edges() {
			a, b := numberOf(m), numberOf(n)
			mustBe(t, fmt.Sprint(m, " + ", n), prime.Add(nil, a, b), new(big.Int).Add(m, n))
			mustBe(t, fmt.Sprint(m, " * ", n), prime.Mul(nil, a, b), new(big.Int).Mul(m, n))
		}
	}
}

// P4.4: what is handed in stays as it was (W6).
func TestHandedInStays(t *testing.T) {
	m, n := power(129, 3), power(130, -6)
	a, b := numberOf(m), numberOf(n)
	prime.Add(nil, a, b)
	prime.Mul(nil, a, b)
	a.Sum([16]byte{1})
	mustBe(t, "the first", a, m)
	mustBe(t, "the second", b, n)
}

// P4.5: the numbers at both ends; the lowest byte stands first.
func TestBytes(t *testing.T) {
	for _, n := range edges() {
		if got := numberOf(n).Bytes(); got != bytesOf(n) {
			t.Errorf("%d: %x", n, got)
		}
	}
	if got := small(0x030201).Bytes(); got != ([17]byte{1, 2, 3}) {
		t.Errorf("the lowest byte stands first: %x", got)
	}
	if got := small(-1).Bytes(); got != filled(0xfa, 0xff, 3) {
		t.Errorf("p - 1: %x", got)
	}
}

// P4.5: sums that come to p and above, or just not.
func TestBytesOfSums(t *testing.T) {
	less := small(-1)
	for n := range int64(20) {
		for _, from := range []struct {
			a prime.Number
			n int64
		}{{less, -1}, {small(-5), -5}, {prime.Block(filled(0xff, 0xff, 3)), 4}, {prime.Add(nil, less, less), -2}, {prime.Block(filled(0xff, 0xff, 0xff)), 319}} {
			sum := prime.Add(nil, from.a, small(n))
			mustBe(t, fmt.Sprint(from.n, " + ", n), sum, num(from.n+n))
			mustBe(t, fmt.Sprint("twice ", from.n, " + ", n), prime.Add(nil, sum, sum), num(2*(from.n+n)))
		}
	}
}

// P4.5: the last byte is 0, 1, 2 or 3, and each of them comes.
func TestLastByte(t *testing.T) {
	for last := range byte(4) {
		if got := prime.Block([17]byte{0: 9, 16: last}).Bytes(); got != ([17]byte{0: 9, 16: last}) {
			t.Errorf("the last byte %d: %x", last, got)
		}
	}
	for _, b := range draws(300) {
		a := prime.Block(b)
		for _, x := range []prime.Number{a, prime.Add(nil, a, a), prime.Mul(nil, a, a)} {
			if last := x.Bytes()[16]; last > 3 {
				t.Errorf("%x: the last byte is %x", b, last)
			}
		}
	}
}

// P4.6: numbers of any size, of 2^128 and above too, and what is carried out or not.
func TestSum(t *testing.T) {
	carried, plain, high := 0, 0, 0
	for _, n := range edges() {
		for _, s := range edges() {
			with := bytesOf(new(big.Int).Mod(s, power(128, 0)))
			whole := new(big.Int).Add(n, worth(with[:16]))
			want := bytesOf(new(big.Int).Mod(whole, power(128, 0)))
			if got := numberOf(n).Sum([16]byte(with[:16])); got != api.Tag(want[:16]) {
				t.Errorf("%d and %x: %x, not %x", n, with[:16], got, want[:16])
			}
			switch {
			case n.BitLen() > 128:
				high++
			case whole.BitLen() > 128:
				carried++
			default:
				plain++
			}
		}
	}
	if carried == 0 || plain == 0 || high == 0 {
		t.Errorf("of numbers below 2^128: %d with a carry, %d without; of others: %d", carried, plain, high)
	}
}

// P4.6: the carry goes through every byte, and is lost behind the last one.
func TestSumCarry(t *testing.T) {
	for at := range 16 {
		from := power(uint(8*at), 0)
		rest := new(big.Int).Sub(power(128, 0), from)
		with := bytesOf(rest)
		if got := numberOf(from).Sum([16]byte(with[:16])); got != (api.Tag{}) {
			t.Errorf("byte %d: all carried out: %x", at, got)
		}
		with = bytesOf(new(big.Int).Sub(rest, from))
		if got := numberOf(from).Sum([16]byte(with[:16])); worth(got[:]).Cmp(rest) != 0 {
			t.Errorf("byte %d: nothing carried out: %x, not %x", at, got, rest)
		}
	}
}

// P4.6: p is taken away ahead of the sum.
func TestSumOfGrown(t *testing.T) {
	for i, x := range []struct {
		of   prime.Number
		want api.Tag
	}{
		{prime.Block(filled(0xfb, 0xff, 3)), api.Tag{9}},
		{prime.Block(filled(0xff, 0xff, 3)), api.Tag{13}},
		{prime.Block(filled(0xff, 0xff, 0xff)), api.Tag{0x48, 1}},
		{prime.Add(nil, small(-1), small(1)), api.Tag{9}},
		{prime.Mul(nil, small(-1), small(-1)), api.Tag{10}},
		{small(-1), api.Tag{3}}, // the lowest 128 digits of p - 1 are 2^128 - 6
	} {
		if got := x.of.Sum([16]byte{9}); got != x.want {
			t.Errorf("row %d: %x, not %x", i, got, x.want)
		}
	}
}

// calls are the calls that take a Recorder, with the operation that each logs.
func calls() []struct {
	op  int
	ask func(r *trace.Recorder, a, b prime.Number) prime.Number
} {
	return []struct {
		op  int
		ask func(r *trace.Recorder, a, b prime.Number) prime.Number
	}{{api.OpPlus, prime.Add}, {api.OpTimes, prime.Mul}}
}

// P4.7: one event a call, whatever the numbers; and the same answer without a Recorder.
func TestLogged(t *testing.T) {
	for _, call := range calls() {
		want := []api.Event{{Kind: api.EventOp, Value: call.op}}
		for _, m := range edges() {
			for _, n := range edges() {
				r := trace.New()
				a, b := numberOf(m), numberOf(n)
				got := call.ask(r, a, b)
				if !slices.Equal(r.Events(), want) {
					t.Errorf("operation %d of %d and %d: %v", call.op, m, n, r.Events())
				}
				mustBeSame(t, fmt.Sprint("operation ", call.op, " with and without a Recorder"), got, call.ask(nil, a, b))
			}
		}
	}
}

// P4.7: call by call, in order; Clamp, Block, Bytes and Sum between them say nothing.
func TestLoggedInOrder(t *testing.T) {
	r := trace.New()
	var want []api.Event
	a := small(7)
	for _, b := range draws(5) {
		for _, call := range calls() {
			by := prime.Clamp([16]byte(b[:16]))
			a = prime.Block(call.ask(r, a, by).Bytes())
			a.Sum([16]byte(b[1:]))
			want = append(want, api.Event{Kind: api.EventOp, Value: call.op})
			if !slices.Equal(r.Events(), want) {
				t.Errorf("%v, not %v", r.Events(), want)
			}
		}
	}
	r = trace.New()
	prime.Mul(r, prime.Add(r, a, a), a)
	if !slices.Equal(r.Events(), []api.Event{{Kind: api.EventOp, Value: api.OpPlus}, {Kind: api.EventOp, Value: api.OpTimes}}) {
		t.Errorf("a product of a sum: %v", r.Events())
	}
}

// P4.8: the rules of sums and products.
func TestRules(t *testing.T) {
	r := trace.New() // the rules hold with one, too
	add := func(a, b prime.Number) prime.Number { return prime.Add(r, a, b) }
	mul := func(a, b prime.Number) prime.Number { return prime.Mul(r, a, b) }
	for _, l := range few() {
		for _, m := range few() {
			a, b := numberOf(l), numberOf(m)
			mustBeSame(t, "a + b, b + a", add(a, b), add(b, a))
			mustBeSame(t, "a * b, b * a", mul(a, b), mul(b, a))
			for _, n := range few() {
				c := numberOf(n)
				mustBeSame(t, "(a + b) + c, a + (b + c)", add(add(a, b), c), add(a, add(b, c)))
				mustBeSame(t, "(a * b) * c, a * (b * c)", mul(mul(a, b), c), mul(a, mul(b, c)))
				mustBeSame(t, "a * (b + c), a * b + a * c", mul(a, add(b, c)), add(mul(a, b), mul(a, c)))
			}
		}
	}
}

// P4.8: Block and Bytes are each other's way back.
func TestRulesOfBytes(t *testing.T) {
	for _, n := range edges() {
		b := bytesOf(n)
		if got := prime.Block(b).Bytes(); got != b {
			t.Errorf("%x came back as %x", b, got)
		}
		for _, m := range edges() {
			for _, call := range calls() {
				a := call.ask(nil, numberOf(n), numberOf(m))
				back := prime.Block(a.Bytes())
				mustBeSame(t, fmt.Sprint("operation ", call.op, " through bytes"), back, a)
				mustBeSame(t, fmt.Sprint("operation ", call.op, " through bytes, squared"), prime.Mul(nil, back, back), prime.Mul(nil, a, a))
			}
		}
	}
}

// P4.8: the sum with nothing is what Bytes has first.
func TestRulesOfSum(t *testing.T) {
	for _, n := range edges() {
		for _, m := range edges() {
			for _, call := range calls() {
				a := call.ask(nil, numberOf(n), numberOf(m))
				b := a.Bytes()
				if got := a.Sum([16]byte{}); got != api.Tag(b[:16]) {
					t.Errorf("operation %d of %d and %d: %x, not %x", call.op, n, m, got, b[:16])
				}
			}
		}
	}
}
