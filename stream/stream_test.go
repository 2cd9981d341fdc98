package stream_test

import (
	"bytes"
	"encoding/hex"
	"math"
	"slices"
	"testing"

	"pintle/api"
	"pintle/stream"
	"pintle/trace"
)

// fromHex is bytes out of their hex.
func fromHex(t *testing.T, text string) []byte {
	t.Helper()
	b, err := hex.DecodeString(text)
	if err != nil {
		t.Fatalf("%q is no hex", text)
	}
	return b
}

// exampleKey is 00 01 02 .. 1f.
func exampleKey() (k api.Key) {
	for i := range k {
		k[i] = byte(i)
	}
	return k
}

func exampleNonce() api.Nonce {
	return api.Nonce{0, 0, 0, 0, 1, 2, 3, 4, 5, 6, 7, 8}
}

// drawn is bytes by a fixed rule, so that every run sees the same ones; each seed has its own.
func drawn(seed uint64, n int) []byte {
	list := make([]byte, n)
	x := seed
	for i := range list {
		x = x*6364136223846793005 + 1442695040888963407
		list[i] = byte(x >> 56)
	}
	return list
}

// keys are keys at both ends and between.
func keys() []api.Key {
	list := []api.Key{{}, api.Key(bytes.Repeat([]byte{0xff}, 32)), api.Key(bytes.Repeat([]byte{0x80}, 32)), exampleKey()}
	for seed := range uint64(4) {
		list = append(list, api.Key(drawn(seed, 32)))
	}
	return list
}

// nonces are nonces at both ends and between.
func nonces() []api.Nonce {
	list := []api.Nonce{{}, api.Nonce(bytes.Repeat([]byte{0xff}, 12)), exampleNonce()}
	for seed := range uint64(3) {
		list = append(list, api.Nonce(drawn(100+seed, 12)))
	}
	return list
}

// counters are counters at both ends, beside 2^31 and between.
func counters() []uint32 {
	return []uint32{0, 1, 2, 255, 256, 65535, 65536, 0x12345678, 1<<31 - 1, 1 << 31, math.MaxUint32 - 3, math.MaxUint32 - 2, math.MaxUint32 - 1, math.MaxUint32}
}

// beside are counters that come to 2^32 within a few blocks, in each place of a row of four, and those that do not.
func beside() []uint32 {
	list := []uint32{0, 1, 77, 1<<31 - 2}
	for less := range uint32(10) {
		list = append(list, math.MaxUint32-less)
	}
	return list
}

const whole = 1 << 32 // the other reckoning takes its words modulo that

// turned is x <<< n, by a product: what comes to 2^32 and above is what falls out.
func turned(x, n uint64) uint64 {
	x <<= n
	return x%whole + x/whole
}

// quarterOf is a quarter round of the words of s that stand at these places, in numbers that are wider than words.
func quarterOf(s *[16]uint64, a, b, c, d int) {
	s[a] = (s[a] + s[b]) % whole
	s[d] = turned(s[d]^s[a], 16)
	s[c] = (s[c] + s[d]) % whole
	s[b] = turned(s[b]^s[c], 12)
	s[a] = (s[a] + s[b]) % whole
	s[d] = turned(s[d]^s[a], 8)
	s[c] = (s[c] + s[d]) % whole
	s[b] = turned(s[b]^s[c], 7)
}

// places are the quarter rounds of a double round, as the chapter lists them.
func places() [8][4]int {
	return [8][4]int{
		{0, 4, 8, 12}, {1, 5, 9, 13}, {2, 6, 10, 14}, {3, 7, 11, 15},
		{0, 5, 10, 15}, {1, 6, 11, 12}, {2, 7, 8, 13}, {3, 4, 9, 14},
	}
}

// reckoned is Block by another reckoning.
func reckoned(key api.Key, counter uint32, nonce api.Nonce) (block [64]byte) {
	// The four words that every state begins with are this text.
	start := append([]byte("expand 32-byte k"), key[:]...)
	start = append(start, byte(counter), byte(counter>>8), byte(counter>>16), byte(counter>>24))
	start = append(start, nonce[:]...)
	var first [16]uint64
	for i, b := range start {
		first[i/4] += uint64(b) << (i % 4 * 8)
	}
	s := first
	for range 10 {
		for _, p := range places() {
			quarterOf(&s, p[0], p[1], p[2], p[3])
		}
	}
	for i := range block {
		block[i] = byte((s[i/4] + first[i/4]) >> (i % 4 * 8))
	}
	return block
}

func mustBe(t *testing.T, what string, got, want []byte) {
	t.Helper()
	if !bytes.Equal(got, want) {
		t.Fatalf("%s: %x, not %x", what, got, want)
	}
}

// mustBlock holds Block against the other reckoning.
func mustBlock(t *testing.T, key api.Key, counter uint32, nonce api.Nonce) {
	t.Helper()
	got, want := stream.Block(nil, key, counter, nonce), reckoned(key, counter, nonce)
	if got != want {
		t.Fatalf("Block(%x, %d, %x): %x, not %x", key, counter, nonce, got, want)
	}
}

func TestExamples(t *testing.T) {
	k, n := exampleKey(), exampleNonce()
	b := stream.Block(nil, k, 1, n)
	mustBe(t, "the first 16 bytes", b[:16], fromHex(t, "efe6a5f8a58ca89c10bfe8d68aec275e"))
	mustBe(t, "the last 4 bytes", b[60:], fromHex(t, "1167d0ed"))
	b = stream.Block(nil, api.Key{}, 0, api.Nonce{})
	mustBe(t, "the first 16 bytes of zeros", b[:16], fromHex(t, "76b8e0ada0f13d90405d6ae55386bd28"))
	buf := []byte("keel and rudder")
	stream.XOR(nil, k, 1, n, buf)
	mustBe(t, "keel and rudder", buf, fromHex(t, "8483c09485edc6f830cd9db2ee8955"))
	buf = make([]byte, 80)
	stream.XOR(nil, k, 4294967295, n, buf)
	b = stream.Block(nil, k, 0, n)
	mustBe(t, "behind the last counter", buf[64:], b[:16])
}

// P6.1: the numbers of RFC 8439, 2.3.2 and A.1.
func TestBlockRFC(t *testing.T) {
	for _, x := range []struct {
		key     api.Key
		counter uint32
		nonce   api.Nonce
		want    string
	}{
		{exampleKey(), 1, api.Nonce{3: 9, 7: 0x4a}, "10f1e7e4d13b5915500fdd1fa32071c4c7d1f4c733c068030422aa9ac3d46c4ed2826446079faa0914c2d705d98b02a2b5129cd1de164eb9cbd083e8a2503c4e"},
		{api.Key{}, 0, api.Nonce{}, "76b8e0ada0f13d90405d6ae55386bd28bdd219b8a08ded1aa836efcc8b770dc7da41597c5157488d7724e03fb8d84a376a43b8f41518a11cc387b669b2ee6586"},
		{api.Key{}, 1, api.Nonce{}, "9f07e7be5551387a98ba977c732d080dcb0f29a048e3656912c6533e32ee7aed29b721769ce64e43d57133b074d839d531ed1f28510afb45ace10a1f4b794d6f"},
		{api.Key{31: 1}, 1, api.Nonce{}, "3aeb5224ecf849929b9d828db1ced4dd832025e8018b8160b82284f3c949aa5a8eca00bbb4a73bdad192b5c42f73f2fd4e273644c8b36125a64addeb006c13a0"},
		{api.Key{}, 0, api.Nonce{11: 2}, "c2c64d378cd536374ae204b9ef933fcd1a8b2288b3dfa49672ab765b54ee27c78a970e0e955c14f3a88e741b97c286f75f8fc299e8148362fa198a39531bed6d"},
	} {
		got := stream.Block(nil, x.key, x.counter, x.nonce)
		mustBe(t, "Block", got[:], fromHex(t, x.want))
	}
}

// P6.2: the text of RFC 8439, 2.4.2.
func TestXORRFC(t *testing.T) {
	buf := []byte("Ladies and Gentlemen of the class of '99: If I could offer you only one tip for the future, sunscreen would be it.")
	stream.XOR(nil, exampleKey(), 1, api.Nonce{7: 0x4a}, buf)
	mustBe(t, "XOR", buf, fromHex(t, "6e2e359a2568f98041ba0728dd0d6981e97e7aec1d4360c20a27afccfd9fae0bf91b65c5524733ab8f593dabcd62b3571639d624e65152ab8f530c359f0861d807ca0dbf500d6a6156a38e088a22b65e52bc514d16ccf806818ce91ab77937365af90bbf74a35be6b40b8eedf2785e42874d"))
}

// P6.1
func TestBlock(t *testing.T) {
	for _, k := range keys() {
		for _, n := range nonces() {
			for _, c := range counters() {
				mustBlock(t, k, c, n)
			}
		}
	}
}

// P6.1: each binary digit of the key, of the nonce and of the counter for itself.
func TestBlockDigits(t *testing.T) {
	for i := range 256 {
		var k api.Key
		k[i/8] = 1 << (i % 8)
		mustBlock(t, k, 0, api.Nonce{})
	}
	for i := range 96 {
		var n api.Nonce
		n[i/8] = 1 << (i % 8)
		mustBlock(t, api.Key{}, 0, n)
	}
	for i := range 32 {
		mustBlock(t, api.Key{}, 1<<i, api.Nonce{})
	}
}

// streamOf is so many bytes of the stream, out of Block alone.
func streamOf(key api.Key, counter uint32, nonce api.Nonce, n int) []byte {
	var all []byte
	for ; len(all) < n; counter++ {
		b := stream.Block(nil, key, counter, nonce)
		all = append(all, b[:]...)
	}
	return all[:n]
}

const beyond = 2*256 + 3*64 + 2 // lengths that the tests go through one by one

// mustTurn holds XOR of n bytes against the bytes of the stream; what stands ahead of buf and behind its end has to stay.
func mustTurn(t *testing.T, key api.Key, counter uint32, nonce api.Nonce, by []byte, n int) {
	t.Helper()
	const margin = 300 // more than all that is turned at one time
	all := drawn(uint64(n), margin+n+margin)
	want := slices.Clone(all)
	for i := range n {
		want[margin+i] ^= by[i]
	}
	stream.XOR(nil, key, counter, nonce, all[margin:margin+n])
	for i := range all {
		if all[i] != want[i] {
			t.Fatalf("XOR of %d bytes from the counter %d on: byte %d is %x, not %x", n, counter, i-margin, all[i], want[i])
		}
	}
}

// P6.2: byte by byte, each length, counters beside 2^32 and others.
func TestXOR(t *testing.T) {
	for i, c := range beside() {
		k, n := keys()[i%len(keys())], nonces()[i%len(nonces())]
		by := streamOf(k, c, n, beyond)
		for length := range beyond + 1 {
			mustTurn(t, k, c, n, by, length)
		}
	}
}

// P6.2: long ones, beside the longest message and beyond.
func TestXORLong(t *testing.T) {
	const longest = 1<<16 + 1
	for _, c := range []uint32{0, math.MaxUint32 - 1000, math.MaxUint32 - 511} {
		by := streamOf(exampleKey(), c, exampleNonce(), longest)
		for _, length := range []int{4095, 4096, 4097, 65535 - 256, 65535, 65536, longest} {
			mustTurn(t, exampleKey(), c, exampleNonce(), by, length)
		}
	}
}

// P6.2: every key and every nonce, for both kinds of blocks.
func TestXORKeys(t *testing.T) {
	for _, k := range keys() {
		for _, n := range nonces() {
			for _, c := range counters() {
				by := streamOf(k, c, n, 256+64+1)
				mustTurn(t, k, c, n, by, len(by))
			}
		}
	}
}

// P6.2: against the other reckoning itself, so that it does not hang on Block.
func TestXORReckoned(t *testing.T) {
	for _, c := range beside() {
		var by []byte
		for i := range uint32(9) {
			b := reckoned(exampleKey(), c+i, exampleNonce())
			by = append(by, b[:]...)
		}
		mustTurn(t, exampleKey(), c, exampleNonce(), by, len(by)-1)
	}
}

// P6.2: a buf without a byte stays, and so does the room behind it.
func TestXORNothing(t *testing.T) {
	for _, c := range beside() {
		stream.XOR(nil, exampleKey(), c, exampleNonce(), nil)
		stream.XOR(nil, exampleKey(), c, exampleNonce(), []byte{})
		room := drawn(1, 600)
		stream.XOR(nil, exampleKey(), c, exampleNonce(), room[:0])
		stream.XOR(nil, exampleKey(), c, exampleNonce(), room[300:300])
		stream.XOR(nil, exampleKey(), c, exampleNonce(), room[600:])
		mustBe(t, "the room", room, drawn(1, 600))
	}
}

func yes() api.Event { return api.Event{Kind: api.EventIf, Value: 1} }

func no() api.Event { return api.Event{Kind: api.EventIf, Value: 0} }

func at(i int) api.Event { return api.Event{Kind: api.EventAt, Value: i} }

func op(kind int) api.Event { return api.Event{Kind: api.EventOp, Value: kind} }

// logged is what XOR of n bytes logs, reckoned from how often 256 and 64 go into n.
func logged(n int) []api.Event {
	var events []api.Event
	for i := range n / 256 {
		events = append(events, yes(), at(256*i), op(api.OpFour))
	}
	events = append(events, no())
	for i := range n % 256 / 64 {
		events = append(events, yes(), at(n/256*256+64*i), op(api.OpOne))
	}
	events = append(events, no())
	if n%64 == 0 {
		return append(events, no())
	}
	return append(events, yes(), at(n/64*64), op(api.OpOne))
}

func mustLog(t *testing.T, what string, n int, got, want []api.Event) {
	t.Helper()
	if !slices.Equal(got, want) {
		t.Fatalf("%s of %d bytes: %v, not %v", what, n, got, want)
	}
}

// P6.3: the document's examples, and one length of each kind, written out by hand.
func TestLoggedExamples(t *testing.T) {
	for n, want := range map[int][]api.Event{
		0:   {no(), no(), no()},
		1:   {no(), no(), yes(), at(0), op(22)},
		64:  {no(), yes(), at(0), op(22), no(), no()},
		255: {no(), yes(), at(0), op(22), yes(), at(64), op(22), yes(), at(128), op(22), no(), yes(), at(192), op(22)},
		256: {yes(), at(0), op(21), no(), no(), no()},
		330: {yes(), at(0), op(21), no(), yes(), at(256), op(22), no(), yes(), at(320), op(22)},
		512: {yes(), at(0), op(21), yes(), at(256), op(21), no(), no(), no()},
	} {
		r := trace.New()
		stream.XOR(r, exampleKey(), 0, exampleNonce(), make([]byte, n))
		mustLog(t, "XOR", n, r.Events(), want)
		mustLog(t, "the test's own list", n, logged(n), want)
	}
}

// P6.3: each length up to beyond two times 256, and those beside greater multiples.
func TestLogged(t *testing.T) {
	lengths := []int{65535, 65536, 65537}
	for n := range beyond + 1 {
		lengths = append(lengths, n)
	}
	for _, multiple := range []int{3 * 256, 4 * 256, 5*256 + 64, 5*256 + 192, 16 * 256} {
		lengths = append(lengths, multiple-1, multiple, multiple+1)
	}
	for _, n := range lengths {
		r := trace.New()
		stream.XOR(r, exampleKey(), math.MaxUint32, exampleNonce(), drawn(1, n))
		mustLog(t, "XOR", n, r.Events(), logged(n))
	}
	r := trace.New()
	stream.XOR(r, exampleKey(), 1, exampleNonce(), nil)
	mustLog(t, "XOR of nil", 0, r.Events(), logged(0))
}

// P6.3: Block logs one event, whatever it is handed.
func TestLoggedBlock(t *testing.T) {
	for _, k := range keys() {
		for _, n := range nonces() {
			for _, c := range counters() {
				r := trace.New()
				stream.Block(r, k, c, n)
				mustLog(t, "Block", 64, r.Events(), []api.Event{op(api.OpOne)})
			}
		}
	}
}

// P6.3: what is logged comes behind what was there, and what lies behind the end of buf is not in it.
func TestLoggedBehind(t *testing.T) {
	var r trace.Recorder
	r.At(7)
	stream.Block(&r, exampleKey(), 0, exampleNonce())
	stream.XOR(&r, exampleKey(), 0, exampleNonce(), make([]byte, 70, 700))
	stream.XOR(&r, exampleKey(), 0, exampleNonce(), make([]byte, 0, 700))
	stream.Block(&r, exampleKey(), 0, exampleNonce())
	want := append([]api.Event{at(7), op(api.OpOne)}, logged(70)...)
	want = append(append(want, logged(0)...), op(api.OpOne))
	mustLog(t, "one behind the other", 70, r.Events(), want)
}

// P6.3: whether there is a Recorder makes no difference to what is answered.
func TestNilRecorder(t *testing.T) {
	for _, c := range beside() {
		r := trace.New()
		if stream.Block(nil, exampleKey(), c, exampleNonce()) != stream.Block(r, exampleKey(), c, exampleNonce()) {
			t.Errorf("Block of the counter %d hangs on the Recorder", c)
		}
		for n := range beyond + 1 {
			one, other := drawn(2, n), drawn(2, n)
			stream.XOR(nil, exampleKey(), c, exampleNonce(), one)
			stream.XOR(r, exampleKey(), c, exampleNonce(), other)
			mustBe(t, "XOR without a Recorder", one, other)
		}
	}
}

// P6.4
func TestTwice(t *testing.T) {
	for i, c := range beside() {
		k, nonce := keys()[i%len(keys())], nonces()[i%len(nonces())]
		for n := range beyond + 1 {
			buf := drawn(3, n)
			stream.XOR(nil, k, c, nonce, buf)
			if n >= 16 && bytes.Equal(buf, drawn(3, n)) {
				t.Fatalf("XOR of %d bytes turns nothing", n)
			}
			stream.XOR(nil, k, c, nonce, buf)
			mustBe(t, "XOR twice", buf, drawn(3, n))
		}
	}
}

// P6.4
func TestZeros(t *testing.T) {
	for _, k := range keys() {
		for _, n := range nonces() {
			for _, c := range counters() {
				var zeros [64]byte
				stream.XOR(nil, k, c, n, zeros[:])
				b := stream.Block(nil, k, c, n)
				mustBe(t, "XOR of 64 zeros", zeros[:], b[:])
			}
		}
	}
}

// inPieces is XOR of buf, cut ahead of these blocks.
func inPieces(c uint32, buf []byte, cuts ...int) {
	from := 0
	for _, cut := range cuts {
		stream.XOR(nil, exampleKey(), c+uint32(from), exampleNonce(), buf[64*from:64*cut])
		from = cut
	}
	stream.XOR(nil, exampleKey(), c+uint32(from), exampleNonce(), buf[64*from:])
}

// P6.4: every way to cut in three, pieces without a byte too, with a last block that is whole, begun or nearly whole.
func TestPieces(t *testing.T) {
	const blocks = 10
	for _, c := range beside() {
		for _, more := range []int{0, 1, 63} {
			want := drawn(4, 64*blocks+more)
			stream.XOR(nil, exampleKey(), c, exampleNonce(), want)
			for first := range blocks + 1 {
				for second := first; second <= blocks; second++ {
					buf := drawn(4, 64*blocks+more)
					inPieces(c, buf, first, second)
					mustBe(t, "in three pieces", buf, want)
				}
			}
			buf := drawn(4, 64*blocks+more)
			inPieces(c, buf, 1, 2, 3, 4, 5, 6, 7, 8, 9, 10)
			mustBe(t, "block by block", buf, want)
		}
	}
}

// P6.4: the log hangs on the length alone, not on what buf holds, nor on key, counter and nonce.
func TestLogIsBlind(t *testing.T) {
	for _, n := range []int{0, 1, 16, 63, 64, 65, 255, 256, 257, 330, 511, 512, 513, 700} {
		for _, buf := range [][]byte{make([]byte, n), bytes.Repeat([]byte{0xff}, n), drawn(5, n), streamOf(exampleKey(), 0, exampleNonce(), n)} {
			for i, k := range keys() {
				for _, c := range counters() {
					r := trace.New()
					stream.XOR(r, k, c, nonces()[i%len(nonces())], slices.Clone(buf))
					mustLog(t, "XOR", n, r.Events(), logged(n))
				}
			}
		}
	}
}
