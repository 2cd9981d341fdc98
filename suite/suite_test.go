package suite_test

import (
	"bytes"
	"encoding/hex"
	"math"
	"slices"
	"strconv"
	"testing"

	"pintle/api"
	"pintle/curve"
	"pintle/digest"
	"pintle/mac"
	"pintle/slow"
	"pintle/stream"
	"pintle/suite"
	"pintle/trace"
)

// counted is 00 01 .. , so many bytes.
func counted(n int) []byte {
	list := make([]byte, n)
	for i := range list {
		list[i] = byte(i)
	}
	return list
}

// exampleKey is 00 01 .. 1f.
func exampleKey() api.Key { return api.Key(counted(32)) }

// exampleNonce is the nonce of chapter 6.
func exampleNonce() api.Nonce { return api.Nonce{0, 0, 0, 0, 1, 2, 3, 4, 5, 6, 7, 8} }

// full is a key of one byte again and again.
func full(b byte) api.Key { return api.Key(bytes.Repeat([]byte{b}, 32)) }

// drawn is bytes by a fixed rule, so that every run sees the same ones; each seed has its own.
func drawn(seed uint64, n int) []byte {
	list := make([]byte, n)
	x := seed
	for i := range list {
		x = x*6364136223846793005 + 1442695040888963407
		list[i] = byte(x >> 56)
	}
	return list
}

// keys are keys at both ends, beside the field's prime, with a half at one end alone, and drawn ones.
func keys() []api.Key {
	ones := bytes.Repeat([]byte{0xff}, 32)
	list := []api.Key{{}, full(0xff), {0: 1}, {0: 9}, {31: 0x80}, exampleKey()}
	for _, low := range []byte{0xec, 0xed, 0xee} {
		prime := full(0xff)
		prime[0], prime[31] = low, 0x7f
		list = append(list, prime)
	}
	list = append(list, api.Key(append(make([]byte, 16), ones[16:]...)), api.Key(append(ones[:16:16], make([]byte, 16)...)))
	for seed := range uint64(3) {
		list = append(list, api.Key(drawn(seed, 32)))
	}
	return list
}

// nonces are nonces at both ends, and drawn ones.
func nonces() []api.Nonce {
	return []api.Nonce{{}, api.Nonce(bytes.Repeat([]byte{0xff}, 12)), exampleNonce(), api.Nonce(drawn(50, 12))}
}

// counters are counters at both ends, beside 2^31, and such as come to 2^32 within a few blocks.
func counters() []uint32 {
	return []uint32{0, 1, 65536, 0x12345678, 1<<31 - 1, 1 << 31, math.MaxUint32 - 4, math.MaxUint32 - 1, math.MaxUint32}
}

// lengths are lengths beside a block of the mac, one of the digest, one of the stream and four of these, and the longest message.
func lengths() []int {
	return []int{0, 1, 15, 16, 17, 31, 32, 33, 63, 64, 65, 127, 128, 129, 255, 256, 257, 319, 320, 330, 512, 700, api.MaxMessage, api.MaxMessage + 1}
}

// cuts are lists of pieces: none, one, many, such as have no byte, and such as end beside a block.
func cuts() [][][]byte {
	list := [][][]byte{nil, {}, {nil}, {{}}, {nil, {}, nil}, make([][]byte, 300)}
	for i, n := range lengths() {
		all := drawn(uint64(i), n)
		list = append(list, [][]byte{all}, [][]byte{nil, all[:n/3], {}, all[n/3:], nil})
	}
	list = append(list, [][]byte{make([]byte, 64)}, [][]byte{bytes.Repeat([]byte{0xff}, 100)})
	list = append(list, slices.Collect(slices.Chunk(drawn(7, 200), 1)), slices.Collect(slices.Chunk(drawn(8, 1000), 17)))
	return list
}

// question is a call of a Suite, and the call that it is on each engine; answers are held against each other by ==.
type question struct {
	what  string
	of    func(s suite.Suite) any
	fast  func(r *trace.Recorder) any
	plain func() any
}

func askShared(private, public api.Key) question {
	return question{"Shared",
		func(s suite.Suite) any { return s.Shared(private, public) },
		func(r *trace.Recorder) any { return curve.Shared(r, private, public) },
		func() any { return slow.Shared(private, public) }}
}

func askPublic(private api.Key) question {
	return question{"Public",
		func(s suite.Suite) any { return s.Public(private) },
		func(r *trace.Recorder) any { return curve.Public(r, private) },
		func() any { return slow.Public(private) }}
}

// turned is what turn makes of n bytes that are drawn anew each time.
func turned(n int, turn func(buf []byte)) any {
	buf := drawn(uint64(n), n)
	turn(buf)
	return hex.EncodeToString(buf)
}

func askStream(key api.Key, counter uint32, nonce api.Nonce, n int) question {
	return question{"Stream of " + strconv.Itoa(n) + " bytes from " + strconv.FormatUint(uint64(counter), 10) + " on",
		func(s suite.Suite) any {
			return turned(n, func(buf []byte) { s.Stream(key, counter, nonce, buf) })
		},
		func(r *trace.Recorder) any {
			return turned(n, func(buf []byte) { stream.XOR(r, key, counter, nonce, buf) })
		},
		func() any {
			return turned(n, func(buf []byte) { slow.XOR(key, counter, nonce, buf) })
		}}
}

func askTag(key api.Key, pieces [][]byte) question {
	return question{"Tag of " + strconv.Itoa(len(pieces)) + " pieces",
		func(s suite.Suite) any { return s.Tag(key, pieces...) },
		func(r *trace.Recorder) any { return mac.Of(r, key, pieces...) },
		func() any { return slow.Tag(key, pieces...) }}
}

func askCheck(key api.Key, tag api.Tag, pieces [][]byte) question {
	return question{"Check of " + strconv.Itoa(len(pieces)) + " pieces",
		func(s suite.Suite) any { return s.Check(key, tag, pieces...) },
		func(r *trace.Recorder) any { return mac.Check(r, key, tag, pieces...) },
		func() any { return slow.Tag(key, pieces...) == tag }}
}

func askHash(pieces [][]byte) question {
	return question{"Hash of " + strconv.Itoa(len(pieces)) + " pieces",
		func(s suite.Suite) any { return s.Hash(pieces...) },
		func(r *trace.Recorder) any { return digest.Of(r, pieces...) },
		func() any {
			sum, err := slow.Digest(32, nil, pieces...)
			if err != nil {
				return err
			}
			return api.Key(sum)
		}}
}

// ofKeys are questions of the curve, each key with each other one.
func ofKeys() (list []question) {
	for _, private := range keys() {
		list = append(list, askPublic(private))
		for _, public := range keys() {
			list = append(list, askShared(private, public))
		}
	}
	return list
}

// ofStreams are questions of the stream: all lengths, and every key, counter and nonce.
func ofStreams() (list []question) {
	for _, n := range lengths() {
		list = append(list, askStream(exampleKey(), math.MaxUint32-1, exampleNonce(), n))
	}
	for _, key := range keys() {
		for _, counter := range counters() {
			for _, nonce := range nonces() {
				list = append(list, askStream(key, counter, nonce, 330))
			}
		}
	}
	return list
}

// ofPieces are questions of the mac and of the digest; of each tag the right one, one that is near it and such as are at both ends.
func ofPieces() (list []question) {
	all := keys()
	for i, pieces := range cuts() {
		list = append(list, askHash(pieces))
		for _, key := range []api.Key{all[i%len(all)], exampleKey(), full(0xff)} {
			tag := mac.Of(nil, key, pieces...)
			near := tag
			near[i%16] ^= 1 << (i % 8)
			list = append(list, askTag(key, pieces), askCheck(key, tag, pieces), askCheck(key, near, pieces))
			list = append(list, askCheck(key, api.Tag{}, pieces), askCheck(key, api.Tag(bytes.Repeat([]byte{0xff}, 16)), pieces))
		}
	}
	return list
}

// questions are those of all six methods.
func questions() []question { return slices.Concat(ofKeys(), ofStreams(), ofPieces()) }

// few are one question a method, for tests that go through them again and again.
func few() []question {
	pieces := [][]byte{[]byte("keel"), nil, drawn(3, 70)}
	key := exampleKey()
	tag := mac.Of(nil, key, pieces...)
	return []question{
		askShared(key, full(9)), askPublic(key), askStream(key, 7, exampleNonce(), 330),
		askTag(key, pieces), askCheck(key, tag, pieces), askCheck(key, api.Tag{}, pieces), askHash(pieces),
	}
}

func mustAnswer(t *testing.T, who string, q question, got, want any) {
	t.Helper()
	if got != want {
		t.Fatalf("%s: %s: %v, not %v", who, q.what, got, want)
	}
}

// mustOf is an engine that has to be there.
func mustOf(t *testing.T, engine int, r *trace.Recorder) suite.Suite {
	t.Helper()
	s, err := suite.Of(engine, r)
	if err != nil {
		t.Fatalf("Of(%d): %v", engine, err)
	}
	return s
}

func TestExamples(t *testing.T) {
	r := trace.New()
	for _, x := range []struct {
		engine int
		r      *trace.Recorder
	}{{0, nil}, {3, r}} {
		if _, err := suite.Of(x.engine, x.r); err != api.ErrArg {
			t.Errorf("Of(%d): %v", x.engine, err)
		}
	}
	if f, p, z := suite.Fast(nil).Engine(), suite.Plain().Engine(), (suite.Suite{}).Engine(); f != 1 || p != 2 || z != 2 {
		t.Errorf("engines %d, %d, %d", f, p, z)
	}
	k, p := exampleKey(), []byte("keel and rudder")
	tag := suite.Fast(r).Tag(k, p)
	if !suite.Plain().Check(k, tag, p) {
		t.Error("Plain does not hold Fast's tag for the right one")
	}
	tag[3]++
	if suite.Fast(nil).Check(k, tag, p) {
		t.Error("Fast holds another tag for the right one")
	}
}

// P10.4
func TestEngine(t *testing.T) {
	for _, r := range []*trace.Recorder{nil, trace.New(), {}} {
		if n := suite.Fast(r).Engine(); n != api.Fast {
			t.Errorf("the engine of Fast: %d", n)
		}
		if r.Total() != 0 {
			t.Error("to ask for the engine has logged")
		}
	}
	if n := suite.Plain().Engine(); n != api.Plain {
		t.Errorf("the engine of Plain: %d", n)
	}
	var zero suite.Suite
	if n := zero.Engine(); n != api.Plain {
		t.Errorf("the engine of the zero Suite: %d", n)
	}
}

// P10.5: whatever engine, however it was come by, with a Recorder or without.
func TestAlike(t *testing.T) {
	r := trace.New()
	fast := suite.Fast(trace.New())
	copied := fast
	suites := []struct {
		who string
		s   suite.Suite
	}{
		{"Fast(nil)", suite.Fast(nil)}, {"Fast of a Recorder", fast}, {"a copy of it", copied}, {"Fast of a zero Recorder", suite.Fast(&trace.Recorder{})},
		{"Plain()", suite.Plain()}, {"the zero Suite", suite.Suite{}},
		{"Of(Fast)", mustOf(t, api.Fast, r)}, {"Of(Plain)", mustOf(t, api.Plain, r)},
	}
	ask := func(list []question) {
		t.Helper()
		for _, q := range list {
			want := q.of(suites[0].s)
			for _, x := range suites[1:] {
				mustAnswer(t, x.who, q, q.of(x.s), want)
			}
		}
	}
	ask(few())
	ask(ofStreams()[:len(lengths())])
	ask(ofPieces())
	for seed := range uint64(8) {
		ask([]question{
			askPublic(api.Key(drawn(100+seed, 32))), askShared(api.Key(drawn(200+seed, 32)), api.Key(drawn(300+seed, 32))),
			askStream(api.Key(drawn(400+seed, 32)), uint32(seed)*0x1fffffff, api.Nonce(drawn(500+seed, 12)), int(seed)*37),
		})
	}
}

// P10.5: keys, counters and nonces at both ends; each question of two engines and of the zero Suite.
func TestAlikeAtTheEnds(t *testing.T) {
	for _, q := range slices.Concat(ofKeys(), ofStreams()) {
		want := q.of(suite.Fast(nil))
		mustAnswer(t, "Plain()", q, q.of(suite.Plain()), want)
		mustAnswer(t, "the zero Suite", q, q.of(suite.Suite{}), want)
	}
}

// P10.5: what one engine does the other undoes, and two sides on two engines come to one secret.
func TestOneToTheOther(t *testing.T) {
	fast, plain, zero := suite.Fast(trace.New()), suite.Plain(), suite.Suite{}
	for _, pair := range [][2]suite.Suite{{fast, plain}, {plain, fast}, {fast, zero}, {zero, plain}} {
		one, other := pair[0], pair[1]
		a, b := api.Key(drawn(1, 32)), api.Key(drawn(2, 32))
		if one.Shared(a, other.Public(b)) != other.Shared(b, one.Public(a)) {
			t.Error("two engines come to two secrets")
		}
		buf := drawn(3, 700)
		one.Stream(a, math.MaxUint32-2, exampleNonce(), buf)
		if bytes.Equal(buf, drawn(3, 700)) {
			t.Error("nothing is turned")
		}
		other.Stream(a, math.MaxUint32-2, exampleNonce(), buf)
		if !bytes.Equal(buf, drawn(3, 700)) {
			t.Error("one engine does not turn back what the other has turned")
		}
		if !other.Check(a, one.Tag(a, buf[:30], buf[30:]), buf) {
			t.Error("one engine does not hold the other's tag for the right one")
		}
	}
}
