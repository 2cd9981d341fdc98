package mac_test

import (
	"bytes"
	"encoding/hex"
	"math/big"
	"slices"
	"testing"

	"pintle/api"
	"pintle/mac"
	"pintle/trace"
)

// fromHex is bytes out of their hex.
func fromHex(t *testing.T, text string) []byte {
	t.Helper()
	b, err := hex.DecodeString(text)
	if err != nil {
		t.Fatalf("%q is no hex", text)
	}
	return b
}

// exampleKey is 00 01 .. 1f.
func exampleKey() (k api.Key) {
	for i := range k {
		k[i] = byte(i)
	}
	return k
}

// smallKey has 2 as its multiplier, and the mask 10 11 .. 1f.
func smallKey() api.Key {
	k := exampleKey()
	clear(k[:16])
	k[0] = 2
	return k
}

// drawn is bytes by a fixed rule, so that every run sees the same ones; each seed has its own.
func drawn(seed uint64, n int) []byte {
	list := make([]byte, n)
	x := seed
	for i := range list {
		x = x*6364136223846793005 + 1442695040888963407
		list[i] = byte(x >> 56)
	}
	return list
}

// keys are keys at both ends and between; some have a half at one end alone.
func keys() []api.Key {
	ones := bytes.Repeat([]byte{0xff}, 32)
	list := []api.Key{{}, api.Key(ones), exampleKey(), smallKey(), {0: 1}, {16: 1}, {31: 0x80}}
	list = append(list, api.Key(append(make([]byte, 16), ones[16:]...)), api.Key(append(ones[:16:16], make([]byte, 16)...)))
	for seed := range uint64(4) {
		list = append(list, api.Key(drawn(seed, 32)))
	}
	return list
}

// messages are messages of one length, at both ends and between.
func messages(n int) [][]byte {
	return [][]byte{make([]byte, n), bytes.Repeat([]byte{0xff}, n), bytes.Repeat([]byte{1}, n), drawn(uint64(n), n), drawn(uint64(n)+1000, n)}
}

const beyond = 3*16 + 5 // lengths that the tests go through one by one

// number is that of bytes, the lowest one first.
func number(b []byte) *big.Int {
	b = slices.Clone(b)
	slices.Reverse(b)
	return new(big.Int).SetBytes(b)
}

// reckoned is the tag by another reckoning, in big numbers.
func reckoned(key api.Key, message []byte) (tag api.Tag) {
	p := new(big.Int).Lsh(big.NewInt(1), 130)
	p.Sub(p, big.NewInt(5))
	clamp, _ := new(big.Int).SetString("0ffffffc0ffffffc0ffffffc0fffffff", 16)
	multiplier := number(key[:16])
	multiplier.And(multiplier, clamp)
	sum := new(big.Int)
	for block := range slices.Chunk(message, 16) {
		sum.Add(sum, number(append(slices.Clone(block), 1)))
		sum.Mul(sum, multiplier)
		sum.Mod(sum, p)
	}
	sum.Add(sum, number(key[16:]))
	sum.Mod(sum, new(big.Int).Lsh(big.NewInt(1), 128))
	sum.FillBytes(tag[:])
	slices.Reverse(tag[:])
	return tag
}

func mustTag(t *testing.T, what string, got, want api.Tag) {
	t.Helper()
	if got != want {
		t.Fatalf("%s: %x, not %x", what, got, want)
	}
}

func TestExamples(t *testing.T) {
	m, k := smallKey(), exampleKey()
	masked := api.Tag(fromHex(t, "101112131415161718191a1b1c1d1e1f"))
	mustTag(t, "no piece", mac.Of(nil, m), masked)
	mustTag(t, "two without a byte", mac.Of(nil, m, nil, []byte{}), masked)
	mustTag(t, "01", mac.Of(nil, m, []byte{1}), api.Tag(fromHex(t, "121312131415161718191a1b1c1d1e1f")))
	mustTag(t, "a key of zeros", mac.Of(nil, api.Key{}, []byte("any"), []byte("pieces, of more than a block")), api.Tag{})
	want := api.Tag(fromHex(t, "da9c06cb63a6479418b2acddf6a2b136"))
	mustTag(t, "one piece", mac.Of(nil, k, []byte("keel and rudder")), want)
	mustTag(t, "three pieces", mac.Of(nil, k, []byte("keel"), []byte(" and "), []byte("rudder")), want)
	if !mac.Check(nil, k, want, []byte("keel and rudder")) {
		t.Errorf("Check does not hold")
	}
	if mac.Check(nil, k, want, []byte("keel and Rudder")) {
		t.Errorf("Check holds of another message")
	}
}

// P7.1: the numbers of RFC 8439, 2.5.2 and A.3 (its vectors 7 to 11 are those where a carry is easily lost).
func TestRFC(t *testing.T) {
	const ones, zeros = "ffffffffffffffffffffffffffffffff", "00000000000000000000000000000000"
	const one, two = "01000000000000000000000000000000", "02000000000000000000000000000000"
	const split = "01000000000000000400000000000000"
	const carried = "e33594d7505e43b900000000000000003394d7505e4379cd01000000000000000000000000000000000000000000000"
	for _, x := range []struct{ key, message, tag string }{
		{"85d6be7857556d337f4452fe42d506a80103808afb0db2fd4abff6af4149f51b", hex.EncodeToString([]byte("Cryptographic Forum Research Group")), "a8061dc1305136c6c22b8baf0c0127a9"},
		{zeros + zeros, zeros + zeros + zeros + zeros, zeros},
		{"1c9240a5eb55d38af333888604f6b5f0473917c1402b80099dca5cbc207075c0", hex.EncodeToString([]byte("'Twas brillig, and the slithy toves\nDid gyre and gimble in the wabe:\nAll mimsy were the borogoves,\nAnd the mome raths outgrabe.")), "4541669a7eaaee61e708dc7cbcc5eb62"},
		{two + zeros, ones, "03000000000000000000000000000000"},
		{two + ones, two, "03000000000000000000000000000000"},
		{one + zeros, ones + "f0ffffffffffffffffffffffffffffff" + "11000000000000000000000000000000", "05000000000000000000000000000000"},
		{one + zeros, ones + "fbfefefefefefefefefefefefefefefe" + "01010101010101010101010101010101", zeros},
		{two + zeros, "fdffffffffffffffffffffffffffffff", "faffffffffffffffffffffffffffffff"},
		{split + zeros, carried + "0" + one, "14000000000000005500000000000000"},
		{split + zeros, carried + "0", "13000000000000000000000000000000"},
	} {
		key, message, want := api.Key(fromHex(t, x.key)), fromHex(t, x.message), api.Tag(fromHex(t, x.tag))
		mustTag(t, x.message, mac.Of(nil, key, message), want)
		mustTag(t, "the test's own reckoning of "+x.message, reckoned(key, message), want)
	}
}

// P7.1
func TestTag(t *testing.T) {
	for _, k := range keys() {
		for n := range beyond + 1 {
			for _, message := range messages(n) {
				mustTag(t, hex.EncodeToString(message), mac.Of(nil, k, message), reckoned(k, message))
			}
		}
	}
}

// P7.1: long ones, beside the longest message and beyond.
func TestTagLong(t *testing.T) {
	for _, n := range []int{255, 256, 257, 4095, 4096, 65535, 65536, 65537} {
		for _, message := range messages(n) {
			mustTag(t, "a long one", mac.Of(nil, exampleKey(), message), reckoned(exampleKey(), message))
		}
	}
}

// P7.1: each binary digit of the key for itself, so that those that do not count are seen too.
func TestTagDigits(t *testing.T) {
	message := drawn(7, 37)
	for i := range 256 {
		var k api.Key
		k[i/8] = 1 << (i % 8)
		mustTag(t, hex.EncodeToString(k[:]), mac.Of(nil, k, message), reckoned(k, message))
	}
}

// P7.1: zeros at a message's end count.
func TestZerosCount(t *testing.T) {
	seen := map[api.Tag]int{}
	for n := range beyond + 1 {
		tag := mac.Of(nil, exampleKey(), make([]byte, n))
		if was, is := seen[tag]; is {
			t.Errorf("%d zeros and %d have one tag", was, n)
		}
		seen[tag] = n
	}
}

// P7.2: two Macs in turns.
func TestTurns(t *testing.T) {
	a, b := mac.New(nil, exampleKey()), mac.New(nil, smallKey())
	one, other := drawn(1, 200), drawn(2, 200)
	for i := range 20 {
		a.Write(one[10*i : 10*i+10])
		b.Write(other[9*i : 9*i+9])
		mustTag(t, "the one", a.Tag(), reckoned(exampleKey(), one[:10*i+10]))
		mustTag(t, "the other", b.Tag(), reckoned(smallKey(), other[:9*i+9]))
	}
}

// P7.2: two Macs of one key and one Recorder have nothing in common but these.
func TestSameKey(t *testing.T) {
	r := trace.New()
	a, b := mac.New(r, exampleKey()), mac.New(r, exampleKey())
	a.Write(drawn(1, 21))
	mustTag(t, "the one that took nothing", b.Tag(), reckoned(exampleKey(), nil))
	b.Write(drawn(2, 5))
	mustTag(t, "the one", a.Tag(), reckoned(exampleKey(), drawn(1, 21)))
	mustTag(t, "the other", b.Tag(), reckoned(exampleKey(), drawn(2, 5)))
}

// P7.2: a zero Mac.
func TestZero(t *testing.T) {
	for n := range beyond + 1 {
		var zero mac.Mac
		made := mac.New(nil, api.Key{})
		mustTag(t, "a zero one that took nothing", zero.Tag(), made.Tag())
		for range 3 {
			zero.Write(drawn(3, n))
			made.Write(drawn(3, n))
			mustTag(t, "a zero one", zero.Tag(), made.Tag())
			mustTag(t, "a zero one", zero.Tag(), api.Tag{})
		}
	}
}

// P7.2: a nil Mac.
func TestNil(t *testing.T) {
	var none *mac.Mac
	mustTag(t, "a nil one", none.Tag(), api.Tag{})
	for n := range beyond + 1 {
		none.Write(drawn(4, n))
		none.Write(nil)
		mustTag(t, "a nil one", none.Tag(), api.Tag{})
	}
}

// P7.2: what was handed in is not kept, and is as it was.
func TestWrittenOver(t *testing.T) {
	for n := range beyond + 1 {
		m := mac.New(nil, exampleKey())
		room := drawn(5, n+20)
		p := room[:n]
		m.Write(p)
		m.Tag()
		if !bytes.Equal(room, drawn(5, n+20)) {
			t.Fatalf("a piece of %d bytes, or the room behind it, was changed", n)
		}
		for i := range room {
			room[i] = 0xaa
		}
		mustTag(t, "the piece written over", m.Tag(), reckoned(exampleKey(), drawn(5, n)))
		m.Write(drawn(6, 30))
		mustTag(t, "and one behind it", m.Tag(), reckoned(exampleKey(), append(drawn(5, n), drawn(6, 30)...)))
	}
}

// P7.2: the pieces of Of and Check are as they were, and so is the list of them.
func TestPiecesStay(t *testing.T) {
	for n := range beyond + 1 {
		room := drawn(5, n+20)
		pieces := [][]byte{room[:n/2], nil, room[n/2 : n], room[:n], {9}}
		tag := mac.Of(nil, exampleKey(), pieces[:4]...)
		if !mac.Check(nil, exampleKey(), tag, pieces[:4]...) {
			t.Fatalf("Check does not hold of pieces of %d bytes", n)
		}
		want := drawn(5, n+20)
		if !bytes.Equal(room, want) || pieces[1] != nil || len(pieces[0]) != n/2 || !bytes.Equal(pieces[2], want[n/2:n]) || !bytes.Equal(pieces[4], []byte{9}) {
			t.Fatalf("pieces of %d bytes were changed", n)
		}
	}
}

// P7.3: pieces of every length, one behind the other, with Tag between them and asked again.
func TestPieces(t *testing.T) {
	for size := 1; size <= beyond; size++ {
		m := mac.New(nil, exampleKey())
		silent := mac.New(nil, exampleKey())
		all := drawn(8, 6*size)
		for i := range 6 {
			m.Write(all[size*i : size*i+size])
			silent.Write(all[size*i : size*i+size])
			want := reckoned(exampleKey(), all[:size*i+size])
			mustTag(t, "behind a piece", m.Tag(), want)
			mustTag(t, "asked again", m.Tag(), want)
		}
		mustTag(t, "asked at the end alone", silent.Tag(), m.Tag())
	}
}

// P7.3, P7.8: every way to cut in three, pieces without a byte too.
func TestCuts(t *testing.T) {
	for _, n := range []int{0, 1, 15, 16, 17, 31, 32, 33, 48, beyond} {
		all := drawn(9, n)
		want := reckoned(exampleKey(), all)
		for first := range n + 1 {
			for second := first; second <= n; second++ {
				m := mac.New(nil, exampleKey())
				m.Write(all[:first])
				m.Write(all[first:second])
				m.Write(all[second:])
				mustTag(t, "in three pieces", m.Tag(), want)
				mustTag(t, "Of three pieces", mac.Of(nil, exampleKey(), all[:first], all[first:second], all[second:]), want)
			}
		}
	}
}

// P7.3: a piece without a byte changes nothing, however many bytes are held.
func TestEmptyPieces(t *testing.T) {
	for held := range beyond + 1 {
		m := mac.New(nil, exampleKey())
		m.Write(nil)
		m.Write(drawn(10, held))
		m.Write(nil)
		m.Write([]byte{})
		mustTag(t, "behind nothing", m.Tag(), reckoned(exampleKey(), drawn(10, held)))
		m.Write([]byte{7})
		mustTag(t, "behind one byte more", m.Tag(), reckoned(exampleKey(), append(drawn(10, held), 7)))
	}
}

// P7.3: what was held ahead of a whole block is not in what is held behind it.
func TestHeldAnew(t *testing.T) {
	ones := bytes.Repeat([]byte{0xff}, 16)
	for held := 1; held < 16; held++ {
		for next := range 16 {
			m := mac.New(nil, exampleKey())
			m.Write(ones[:held])
			m.Write(ones[held:])
			m.Write(make([]byte, next))
			want := reckoned(exampleKey(), append(slices.Clone(ones), make([]byte, next)...))
			mustTag(t, "behind a block of two pieces", m.Tag(), want)
		}
	}
}

// pieces is a message in so many pieces, of lengths by a fixed rule; some have no byte.
func pieces(message []byte, count int) [][]byte {
	var list [][]byte
	for i := range count - 1 {
		n := min(len(message), i*7%19)
		list = append(list, message[:n])
		message = message[n:]
	}
	return append(list, message)
}

// P7.4: Of and Check with no piece, with one and with many.
func TestOf(t *testing.T) {
	for _, k := range keys() {
		mustTag(t, "no piece", mac.Of(nil, k), reckoned(k, nil))
		if !mac.Check(nil, k, reckoned(k, nil)) {
			t.Errorf("Check of no piece does not hold")
		}
		for n := range beyond + 1 {
			message := drawn(11, n)
			want := reckoned(k, message)
			for _, count := range []int{1, 2, 3, 7, 40} {
				list := pieces(message, count)
				mustTag(t, "many pieces", mac.Of(nil, k, list...), want)
				if !mac.Check(nil, k, want, list...) {
					t.Errorf("Check of %d pieces does not hold", count)
				}
			}
		}
	}
}

// P7.4, P7.8: a tag that is one digit off is another one.
func TestCheckDigits(t *testing.T) {
	for _, list := range [][][]byte{nil, {nil}, {drawn(12, 15)}, pieces(drawn(13, beyond), 6)} {
		want := mac.Of(nil, exampleKey(), list...)
		for i := range 128 {
			tag := want
			tag[i/8] ^= 1 << (i % 8)
			if mac.Check(nil, exampleKey(), tag, list...) {
				t.Errorf("Check holds with the digit %d off", i)
			}
			if !mac.Check(nil, exampleKey(), want, list...) {
				t.Errorf("Check does not hold")
			}
		}
	}
}

// P7.4, P7.8: tags with several digits off, some of which might lift one another.
func TestCheckOthers(t *testing.T) {
	message := drawn(14, 33)
	want := mac.Of(nil, exampleKey(), message)
	for i := range want {
		for j := range i {
			tag := want
			tag[i] ^= 0x80
			tag[j] ^= 0x80
			if mac.Check(nil, exampleKey(), tag, message) {
				t.Errorf("Check holds with the bytes %d and %d off", j, i)
			}
		}
	}
	for seed := range uint64(100) {
		if mac.Check(nil, exampleKey(), api.Tag(drawn(seed, 16)), message) {
			t.Errorf("Check holds of a drawn tag")
		}
	}
	if mac.Check(nil, exampleKey(), api.Tag{}, message) {
		t.Errorf("Check holds of zeros")
	}
}

// P7.4: Check of another message, or of another key.
func TestCheckMessage(t *testing.T) {
	for n := 1; n <= beyond; n++ {
		message := drawn(15, n)
		tag := mac.Of(nil, exampleKey(), message)
		if mac.Check(nil, smallKey(), tag, message) || mac.Check(nil, exampleKey(), tag, message[1:]) || mac.Check(nil, exampleKey(), tag, message, []byte{0}) {
			t.Fatalf("Check holds of what is not the message of %d bytes", n)
		}
		for i := range message {
			message[i] ^= 1
			if mac.Check(nil, exampleKey(), tag, message) {
				t.Fatalf("Check holds with the byte %d off", i)
			}
			message[i] ^= 1
		}
	}
}
