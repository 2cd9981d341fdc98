package digest_test

import (
	"bytes"
	"encoding/hex"
	"math"
	"math/big"
	"slices"
	"strings"
	"testing"

	"pintle/api"
	"pintle/digest"
	"pintle/trace"
)

// fromHex is bytes out of their hex.
func fromHex(t *testing.T, text string) []byte {
	t.Helper()
	b, err := hex.DecodeString(text)
	if err != nil {
		t.Fatalf("%q is no hex", text)
	}
	return b
}

// counted is 00 01 .. , so many bytes.
func counted(n int) []byte {
	list := make([]byte, n)
	for i := range list {
		list[i] = byte(i)
	}
	return list
}

// exampleKey is 00 01 .. 1f.
func exampleKey() []byte { return counted(32) }

// drawn is bytes by a fixed rule, so that every run sees the same ones; each seed has its own.
func drawn(seed uint64, n int) []byte {
	list := make([]byte, n)
	x := seed
	for i := range list {
		x = x*6364136223846793005 + 1442695040888963407
		list[i] = byte(x >> 56)
	}
	return list
}

const beyond = 3*64 + 5 // lengths that the tests go through one by one

const whole = 1 << 32 // the other reckoning takes its words modulo that

// beginning is the first 32 digits behind the point of the square roots of the first eight primes.
func beginning() (words [8]uint64) {
	for i, p := range []int64{2, 3, 5, 7, 11, 13, 17, 19} {
		n := new(big.Int).Lsh(big.NewInt(p), 64)
		words[i] = n.Sqrt(n).Uint64() % whole
	}
	return words
}

// orders are the document's ten rows, each number as one hex digit.
func orders() []string {
	return []string{
		"0123456789abcdef", "ea489fd61c02b753", "b8c052fdae367194", "7931dcbe265a40f8", "905724afe1bc683d",
		"2c6a0b834d75fe19", "c51fed4a0763928b", "db7ec13950f4862a", "6fe9b308c2d714a5", "a2847615fb9e3cd0",
	}
}

// turned is x >>> n, by a division: what is left comes in at the high end.
func turned(x, n uint64) uint64 {
	return x>>n + x%(1<<n)<<(32-n)
}

// mixed is a mixing of the words of v that stand at these places, in numbers that are wider than words.
func mixed(v *[16]uint64, a, b, c, d int, x, y uint64) {
	v[a] = (v[a] + v[b] + x) % whole
	v[d] = turned(v[d]^v[a], 16)
	v[c] = (v[c] + v[d]) % whole
	v[b] = turned(v[b]^v[c], 12)
	v[a] = (v[a] + v[b] + y) % whole
	v[d] = turned(v[d]^v[a], 8)
	v[c] = (v[c] + v[d]) % whole
	v[b] = turned(v[b]^v[c], 7)
}

// pressed is a state once a block, of 64 bytes at the most, has been pressed into it.
func pressed(state [8]uint64, block []byte, count int, last bool) [8]uint64 {
	var v, m [16]uint64
	first := beginning()
	copy(v[:8], state[:])
	copy(v[8:], first[:])
	v[12] ^= uint64(count) % whole
	v[13] ^= uint64(count) / whole
	if last {
		v[14] = whole - 1 - v[14]
	}
	for i, b := range block {
		m[i/4] += uint64(b) << (i % 4 * 8)
	}
	for _, row := range orders() {
		for i := range 8 {
			x, y := strings.IndexByte("0123456789abcdef", row[2*i]), strings.IndexByte("0123456789abcdef", row[2*i+1])
			// From the fifth mixing on each row of four words is turned by one place more than the one above it.
			turn := i / 4
			mixed(&v, i%4, 4+(i+turn)%4, 8+(i+2*turn)%4, 12+(i+3*turn)%4, m[x], m[y])
		}
	}
	for i := range state {
		state[i] ^= v[i] ^ v[i+8]
	}
	return state
}

// reckoned is the digest by another reckoning.
func reckoned(size int, key, message []byte) []byte {
	if len(key) > 0 {
		message = slices.Concat(key, make([]byte, 64-len(key)), message)
	}
	state := beginning()
	state[0] ^= uint64(16842752 + 256*len(key) + size)
	at := 0
	for ; len(message)-at > 64; at += 64 {
		state = pressed(state, message[at:at+64], at+64, false)
	}
	state = pressed(state, message[at:], len(message), true)
	digest := make([]byte, size)
	for i := range digest {
		digest[i] = byte(state[i/4] >> (i % 4 * 8))
	}
	return digest
}

func mustSum(t *testing.T, what string, got, want []byte) {
	t.Helper()
	if !bytes.Equal(got, want) {
		t.Fatalf("%s: %x, not %x", what, got, want)
	}
}

func mustOf(t *testing.T, what string, got api.Key, want []byte) {
	t.Helper()
	mustSum(t, what, got[:], want)
}

func mustNew(t *testing.T, r *trace.Recorder, size int, key []byte) *digest.Hash {
	t.Helper()
	h, err := digest.New(r, size, key)
	if h == nil || err != nil {
		t.Fatalf("New of the size %d and a key of %d bytes: %v, %v", size, len(key), h, err)
	}
	return h
}

// sum is the digest of one piece.
func sum(t *testing.T, size int, key, message []byte) []byte {
	t.Helper()
	h := mustNew(t, nil, size, key)
	h.Write(message)
	return h.Sum()
}

func TestExamples(t *testing.T) {
	mustOf(t, "no piece", digest.Of(nil), fromHex(t, "69217a3079908094e11121d042354a7c1f55b6482ca1a51e1b250dfd1ed0eef9"))
	keel := fromHex(t, "1ddcef8accac345552be6c743bbbb0cadbf8c31271326bd6e3087e7be4039628")
	mustOf(t, "one piece", digest.Of(nil, []byte("keel")), keel)
	mustOf(t, "three pieces", digest.Of(nil, []byte("ke"), nil, []byte("el")), keel)
	mustSum(t, "of the size 16", sum(t, 16, nil, []byte("keel")), fromHex(t, "dc47fcbeff87902b5389fbdfd8d519a0"))
	h := mustNew(t, nil, 32, exampleKey())
	mustSum(t, "keyed", h.Sum(), fromHex(t, "48a8997da407876b3d79c0d92325ad3b89cbb754d86ab71aee047ad345fd2c49"))
	h.Write([]byte("keel"))
	mustSum(t, "keyed, then keel", h.Sum(), fromHex(t, "656ac078e3a63fc8f27f96c5787eb252365f4f217aeaeac2c7aa50e988e209b1"))
	mustOf(t, "64 zeros", digest.Of(nil, make([]byte, 64)), fromHex(t, "ae09db7cd54f42b490ef09b6bc541af688e4959bb8c53f359a6f56e38ab454a3"))
	mustOf(t, "65 zeros", digest.Of(nil, make([]byte, 65)), fromHex(t, "857328bf990b00922782d3e81c6054c25d3375d386c7424abe3e01d79041046c"))
}

// P8.1: known digests of 00 01 .., without a key and with the key 00 01 .. 1f.
func TestKnown(t *testing.T) {
	mustOf(t, "abc", digest.Of(nil, []byte("abc")), fromHex(t, "508c5e8c327c14e2e1a72ba34eeb452f37458b209ed63a294d999b4c86675982"))
	for _, x := range []struct {
		n            int
		plain, keyed string
	}{
		{0, "69217a3079908094e11121d042354a7c1f55b6482ca1a51e1b250dfd1ed0eef9", "48a8997da407876b3d79c0d92325ad3b89cbb754d86ab71aee047ad345fd2c49"},
		{1, "e34d74dbaf4ff4c6abd871cc220451d2ea2648846c7757fbaac82fe51ad64bea", "40d15fee7c328830166ac3f918650f807e7e01e177258cdc0a39b11f598066f1"},
		{63, "e57cb79487dd57902432b250733813bd96a84efce59f650fac26e6696aefafc3", "c65382513f07460da39833cb666c5ed82e61b9e998f4b0c4287cee56c3cc9bcd"},
		{64, "56f34e8b96557e90c1f24b52d0c89d51086acf1b00f634cf1dde9233b8eaaa3e", "8975b0577fd35566d750b362b0897a26c399136df07bababbde6203ff2954ed4"},
		{65, "1b53ee94aaf34e4b159d48de352c7f0661d0a40edff95a0b1639b4090e974472", "21fe0ceb0052be7fb0f004187cacd7de67fa6eb0938d927677f2398c132317a8"},
		{128, "1fa877de67259d19863a2a34bcc6962a2b25fcbf5cbecd7ede8f1fa36688a796", "0c311f38c35a4fb90d651c289d486856cd1413df9b0677f53ece2cd9e477c60a"},
		{255, "f03f5789d3336b80d002d59fdf918bdb775b00956ed5528e86aa994acb38fe2d", "3fb735061abc519dfe979e54c1ee5bfad0a9d858b3315bad34bde999efd724dd"},
	} {
		message := counted(x.n)
		mustSum(t, "plain", sum(t, 32, nil, message), fromHex(t, x.plain))
		mustSum(t, "keyed", sum(t, 32, exampleKey(), message), fromHex(t, x.keyed))
		mustSum(t, "the test's own reckoning", reckoned(32, nil, message), fromHex(t, x.plain))
		mustSum(t, "the test's own reckoning, keyed", reckoned(32, exampleKey(), message), fromHex(t, x.keyed))
	}
}

// grown is the bytes that RFC 7693 makes for its test of itself.
func grown(n int) []byte {
	list := make([]byte, n)
	a, b := uint32(0xdead4bad)*uint32(n), uint32(1)
	for i := range list {
		a, b = b, a+b
		list[i] = byte(b >> 24)
	}
	return list
}

// P8.1: the number of RFC 7693, E, a digest of many digests.
func TestRFC(t *testing.T) {
	all := mustNew(t, nil, 32, nil)
	for _, size := range []int{16, 20, 28, 32} {
		for _, n := range []int{0, 3, 64, 65, 255, 1024} {
			all.Write(sum(t, size, nil, grown(n)))
			all.Write(sum(t, size, grown(size), grown(n)))
		}
	}
	mustSum(t, "all of them", all.Sum(), fromHex(t, "6a411f08ce25adcdfb02aba641451cec53c598b24f4fc787fbdc88797f4c1dfe"))
}

// P8.1: each size, keys at both ends, each length up to beyond three blocks.
func TestSum(t *testing.T) {
	for size := 1; size <= 32; size++ {
		for _, k := range []int{0, 1, 31, 32} {
			for n := range beyond + 1 {
				key, message := drawn(uint64(k), k), drawn(uint64(n), n)
				mustSum(t, "drawn", sum(t, size, key, message), reckoned(size, key, message))
			}
		}
	}
}

// P8.1: each length of a key; bytes at both ends.
func TestSumEnds(t *testing.T) {
	for k := range 33 {
		for _, n := range []int{0, 1, 63, 64, 65, 127, 128, 129, beyond} {
			for _, b := range []byte{0, 1, 0x80, 0xff} {
				key, message := bytes.Repeat([]byte{b}, k), bytes.Repeat([]byte{b ^ 0xff}, n)
				mustSum(t, "a key of one byte again and again", sum(t, 32, key, key), reckoned(32, key, key))
				mustSum(t, "a message of one byte again and again", sum(t, 32, key, message), reckoned(32, key, message))
			}
		}
	}
}

// P8.1: long ones, beside the longest message and beyond.
func TestSumLong(t *testing.T) {
	for _, n := range []int{255, 256, 257, 4095, 4096, 4097, 65535, 65536, 65537} {
		message := drawn(uint64(n), n)
		mustSum(t, "plain", sum(t, 32, nil, message), reckoned(32, nil, message))
		mustSum(t, "keyed", sum(t, 20, exampleKey(), message), reckoned(20, exampleKey(), message))
	}
}

// P8.1: zeros at a message's end count, and so do those at a key's.
func TestZerosCount(t *testing.T) {
	seen := map[string]int{}
	for n := range beyond + 1 {
		seen[string(sum(t, 32, nil, make([]byte, n)))]++
	}
	for k := 1; k <= 32; k++ {
		seen[string(sum(t, 32, make([]byte, k), nil))]++
	}
	if len(seen) != beyond+1+32 {
		t.Errorf("%d digests of so many zeros, not %d", len(seen), beyond+1+32)
	}
}

// P8.2: ErrArg for each of the three reasons.
func TestNewRefused(t *testing.T) {
	refused := func(size int, key []byte) {
		t.Helper()
		for _, r := range []*trace.Recorder{nil, trace.New()} {
			if h, err := digest.New(r, size, key); h != nil || err != api.ErrArg {
				t.Errorf("New of the size %d and a key of %d bytes: %v, %v", size, len(key), h, err)
			}
		}
	}
	for _, size := range []int{0, -1, -32, 33, 34, 64, 256, 257, 65536 + 16, 1<<32 + 16, math.MinInt, math.MaxInt} {
		refused(size, nil)
		refused(size, exampleKey())
		refused(size, make([]byte, 33))
	}
	for _, k := range []int{33, 34, 63, 64, 65, 256, 257, 288, 65536 + 16} {
		for size := 1; size <= 32; size++ {
			refused(size, make([]byte, k))
		}
	}
}

// P8.2: nothing else is refused; a Sum has as many bytes as the size says.
func TestNewTaken(t *testing.T) {
	for size := 1; size <= 32; size++ {
		for k := range 33 {
			h := mustNew(t, nil, size, drawn(9, k))
			mustSum(t, "nothing taken", h.Sum(), reckoned(size, drawn(9, k), nil))
		}
		mustSum(t, "a key without a byte", sum(t, size, []byte{}, []byte("x")), sum(t, size, nil, []byte("x")))
	}
}

// P8.2: the key's bytes as they are when New is called; they and the room behind them stay as they are.
func TestKeyWrittenOver(t *testing.T) {
	for k := range 33 {
		room := drawn(10, 80)
		h := mustNew(t, nil, 32, room[:k])
		h.Write(drawn(11, 100))
		h.Sum()
		if !bytes.Equal(room, drawn(10, 80)) {
			t.Fatalf("a key of %d bytes, or the room behind it, was changed", k)
		}
		late := mustNew(t, nil, 32, room[:k])
		for i := range room {
			room[i] = 0xaa
		}
		late.Write(drawn(11, 100))
		mustSum(t, "the key written over", h.Sum(), reckoned(32, drawn(10, 80)[:k], drawn(11, 100)))
		mustSum(t, "the key written over ahead of the first piece", late.Sum(), reckoned(32, drawn(10, 80)[:k], drawn(11, 100)))
	}
}

// P8.3: pieces of every length, one behind the other, with Sum between them and asked again.
func TestPieces(t *testing.T) {
	for _, key := range [][]byte{nil, exampleKey(), {7}} {
		for size := 1; size <= beyond; size++ {
			h, silent := mustNew(t, nil, 24, key), mustNew(t, nil, 24, key)
			all := drawn(12, 5*size)
			for i := range 5 {
				h.Write(all[size*i : size*i+size])
				silent.Write(all[size*i : size*i+size])
				want := reckoned(24, key, all[:size*i+size])
				mustSum(t, "behind a piece", h.Sum(), want)
				mustSum(t, "asked again", h.Sum(), want)
			}
			mustSum(t, "asked at the end alone", silent.Sum(), h.Sum())
		}
	}
}

// P8.3, P8.10: ways to cut in three, pieces without a byte too.
func TestCuts(t *testing.T) {
	for _, n := range []int{0, 1, 63, 64, 65, 127, 128, 129} {
		all := drawn(13, n)
		plain, keyed := reckoned(32, nil, all), reckoned(32, exampleKey(), all)
		for first := range n + 1 {
			for second := first; second <= n; second++ {
				pieces := [][]byte{all[:first], all[first:second], all[second:]}
				mustOf(t, "three pieces", digest.Of(nil, pieces...), plain)
				if second%7 > 0 {
					continue
				}
				h := mustNew(t, nil, 32, exampleKey())
				for _, p := range pieces {
					h.Write(p)
				}
				mustSum(t, "three pieces, keyed", h.Sum(), keyed)
			}
		}
	}
}

// P8.3: a piece without a byte changes nothing, however many bytes are held.
func TestEmptyPieces(t *testing.T) {
	for _, key := range [][]byte{nil, exampleKey()} {
		for held := range beyond + 1 {
			h := mustNew(t, nil, 32, key)
			h.Write(nil)
			h.Write(drawn(14, held))
			h.Write(nil)
			h.Write([]byte{})
			mustSum(t, "behind nothing", h.Sum(), reckoned(32, key, drawn(14, held)))
			h.Write([]byte{7})
			mustSum(t, "behind one byte more", h.Sum(), reckoned(32, key, append(drawn(14, held), 7)))
		}
	}
}

// P8.3: of a block that was pressed nothing is in what is held behind it.
func TestHeldAnew(t *testing.T) {
	ones := bytes.Repeat([]byte{0xff}, 64)
	for next := range 65 {
		h := mustNew(t, nil, 32, ones[:32])
		h.Write(ones)
		h.Write(make([]byte, next))
		mustSum(t, "behind a block of ones", h.Sum(), reckoned(32, ones[:32], append(slices.Clone(ones), make([]byte, next)...)))
	}
}

// P8.3: two Hashes in turns.
func TestTurns(t *testing.T) {
	a, b := mustNew(t, nil, 32, exampleKey()), mustNew(t, nil, 7, nil)
	one, other := drawn(1, 600), drawn(2, 600)
	for i := range 20 {
		a.Write(one[30*i : 30*i+30])
		b.Write(other[29*i : 29*i+29])
		mustSum(t, "the one", a.Sum(), reckoned(32, exampleKey(), one[:30*i+30]))
		mustSum(t, "the other", b.Sum(), reckoned(7, nil, other[:29*i+29]))
	}
}

// P8.3: two Hashes of one key and one Recorder have nothing in common but these.
func TestSameKey(t *testing.T) {
	r, key := trace.New(), exampleKey()
	a, b := mustNew(t, r, 32, key), mustNew(t, r, 32, key)
	a.Write(drawn(1, 70))
	mustSum(t, "the one that took nothing", b.Sum(), reckoned(32, key, nil))
	b.Write(drawn(2, 5))
	mustSum(t, "the one", a.Sum(), reckoned(32, key, drawn(1, 70)))
	mustSum(t, "the other", b.Sum(), reckoned(32, key, drawn(2, 5)))
}

// P8.3: a Sum is new memory, with the room behind it.
func TestSumIsNew(t *testing.T) {
	for size := 1; size <= 32; size++ {
		h := mustNew(t, nil, size, exampleKey())
		h.Write(drawn(15, 100))
		want := reckoned(size, exampleKey(), drawn(15, 100))
		one, two := h.Sum(), h.Sum()
		for i := range one[:cap(one)] {
			one[:cap(one)][i] = 0xaa
		}
		mustSum(t, "the other answer", two, want)
		mustSum(t, "asked again", h.Sum(), want)
	}
}

// P8.3: what was handed in is not kept, and is as it was.
func TestWrittenOver(t *testing.T) {
	for n := range beyond + 1 {
		h := mustNew(t, nil, 32, nil)
		room := drawn(5, n+80)
		h.Write(room[:n])
		h.Sum()
		if !bytes.Equal(room, drawn(5, n+80)) {
			t.Fatalf("a piece of %d bytes, or the room behind it, was changed", n)
		}
		for i := range room {
			room[i] = 0xaa
		}
		mustSum(t, "the piece written over", h.Sum(), reckoned(32, nil, drawn(5, n)))
		h.Write(drawn(6, 70))
		mustSum(t, "and one behind it", h.Sum(), reckoned(32, nil, append(drawn(5, n), drawn(6, 70)...)))
	}
}

// P8.4: a zero Hash.
func TestZero(t *testing.T) {
	for n := range beyond + 1 {
		var zero digest.Hash
		for range 3 {
			if s := zero.Sum(); len(s) != 0 {
				t.Errorf("a zero Hash: %x", s)
			}
			zero.Write(drawn(3, n))
			zero.Write(nil)
		}
	}
}

// P8.4: a nil Hash.
func TestNil(t *testing.T) {
	var none *digest.Hash
	for n := range beyond + 1 {
		if s := none.Sum(); len(s) != 0 {
			t.Errorf("a nil Hash: %x", s)
		}
		none.Write(drawn(4, n))
		none.Write(nil)
	}
}

// pieces is a message in so many pieces, of lengths by a fixed rule; some have no byte.
func pieces(message []byte, count int) [][]byte {
	var list [][]byte
	for i := range count - 1 {
		n := min(len(message), i*17%71)
		list = append(list, message[:n])
		message = message[n:]
	}
	return append(list, message)
}

// P8.5: Of with no piece, with one and with many.
func TestOf(t *testing.T) {
	mustOf(t, "no piece", digest.Of(nil), reckoned(32, nil, nil))
	mustOf(t, "an empty list", digest.Of(nil, [][]byte{}...), reckoned(32, nil, nil))
	mustOf(t, "pieces without a byte", digest.Of(nil, nil, []byte{}, nil), reckoned(32, nil, nil))
	for n := range beyond + 1 {
		message := drawn(16, n)
		want := reckoned(32, nil, message)
		for _, count := range []int{1, 2, 3, 7, 40} {
			mustOf(t, "many pieces", digest.Of(nil, pieces(message, count)...), want)
		}
	}
}

// P8.5: the pieces of Of are as they were, and so is the list of them.
func TestPiecesStay(t *testing.T) {
	for n := range beyond + 1 {
		room := drawn(5, n+80)
		list := [][]byte{room[:n/2], nil, room[n/2 : n], room[:n], {9}}
		digest.Of(nil, list[:4]...)
		want := drawn(5, n+80)
		if !bytes.Equal(room, want) || list[1] != nil || len(list[0]) != n/2 || !bytes.Equal(list[2], want[n/2:n]) || !bytes.Equal(list[4], []byte{9}) {
			t.Fatalf("pieces of %d bytes were changed", n)
		}
	}
}

// P8.10: Sum changes nothing, wherever it is asked.
func TestSumChangesNothing(t *testing.T) {
	for _, key := range [][]byte{nil, exampleKey()} {
		for n := range beyond + 1 {
			asked, silent := mustNew(t, nil, 32, key), mustNew(t, nil, 32, key)
			asked.Sum()
			for _, p := range [][]byte{drawn(17, n), drawn(18, 3), drawn(19, 64)} {
				asked.Write(p)
				silent.Write(p)
				asked.Sum()
				asked.Sum()
			}
			mustSum(t, "with Sum between", asked.Sum(), silent.Sum())
		}
	}
}

// P8.10: digests of unlike sizes are digests of their own.
func TestSizesApart(t *testing.T) {
	for size := 8; size < 32; size++ {
		if bytes.HasPrefix(sum(t, 32, nil, []byte("keel")), sum(t, size, nil, []byte("keel"))) {
			t.Errorf("that of the size %d is the beginning of that of 32", size)
		}
	}
}
