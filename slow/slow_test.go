package slow_test

import (
	"bytes"
	"encoding/hex"
	"go/parser"
	"go/token"
	"path/filepath"
	"slices"
	"strconv"
	"strings"
	"testing"

	"pintle/api"
	"pintle/slow"
)

// fromHex is bytes out of their hex.
func fromHex(t *testing.T, text string) []byte {
	t.Helper()
	b, err := hex.DecodeString(text)
	if err != nil {
		t.Fatalf("%q is no hex", text)
	}
	return b
}

// counted is 00 01 .. , so many bytes.
func counted(n int) []byte {
	list := make([]byte, n)
	for i := range list {
		list[i] = byte(i)
	}
	return list
}

// exampleKey is 00 01 .. 1f.
func exampleKey() api.Key { return api.Key(counted(32)) }

// full is a key of one byte again and again.
func full(b byte) api.Key { return api.Key(bytes.Repeat([]byte{b}, 32)) }

// drawn is bytes by a fixed rule, so that every run sees the same ones; each seed has its own.
func drawn(seed uint64, n int) []byte {
	list := make([]byte, n)
	x := seed
	for i := range list {
		x = x*6364136223846793005 + 1442695040888963407
		list[i] = byte(x >> 56)
	}
	return list
}

// keys are keys at both ends and between; some have a half at one end alone.
func keys() []api.Key {
	ones := bytes.Repeat([]byte{0xff}, 32)
	list := []api.Key{{}, full(0xff), full(0x80), exampleKey(), {0: 1}, {16: 1}, {31: 0x80}}
	list = append(list, api.Key(append(make([]byte, 16), ones[16:]...)), api.Key(append(ones[:16:16], make([]byte, 16)...)))
	for seed := range uint64(4) {
		list = append(list, api.Key(drawn(seed, 32)))
	}
	return list
}

// mustBe holds bytes against those that are asked for.
func mustBe(t *testing.T, what string, got, want []byte) {
	t.Helper()
	if !bytes.Equal(got, want) {
		t.Fatalf("%s: %x, not %x", what, got, want)
	}
}

// cuts are ways to cut one message into pieces: none or one, in two at every place, byte by byte, by unlike lengths, with pieces without a byte.
func cuts(all []byte) [][][]byte {
	ways := [][][]byte{{all}, {nil, all}, {all, {}}, slices.Collect(slices.Chunk(all, 1)), slices.Collect(slices.Chunk(all, 17))}
	if len(all) == 0 {
		ways = append(ways, nil, [][]byte{})
	}
	for at := range len(all) + 1 {
		ways = append(ways, [][]byte{all[:at], all[at:]}, [][]byte{nil, all[:at], {}, all[at:], nil})
	}
	var grown [][]byte
	for n, rest := 0, all; len(rest) > 0; n++ {
		k := min(n, len(rest))
		grown, rest = append(grown, rest[:k]), rest[k:]
	}
	return append(ways, grown)
}

func TestExamples(t *testing.T) {
	rising := counted(33)[1:]
	p := slow.Public(api.Key(rising))
	mustBe(t, "Public(01 02 ..)", p[:], fromHex(t, "07a37cbc142093c8b755dc1b10e86cb426374ad16aa853ed0bdfc0b2b86d1c7c"))
	for _, k := range keys() {
		if got := slow.Shared(k, api.Key{}); got != (api.Key{}) {
			t.Errorf("Shared(%x, 0): %x", k, got)
		}
	}
	mustRefuse(t, 0, nil)
	mustRefuse(t, 33, nil)
	mustRefuse(t, 32, make([]byte, 33))
	mustBe(t, "a digest of two pieces", mustDigest(t, 32, nil, []byte("ab"), []byte("c")), mustDigest(t, 32, nil, []byte("abc")))
	k := exampleKey()
	mustTag(t, "a tag of three pieces", slow.Tag(k, []byte("ab"), nil, []byte("c")), slow.Tag(k, []byte("abc")))
	buf := drawn(1, 200)
	slow.XOR(k, 7, api.Nonce{1}, buf)
	slow.XOR(k, 7, api.Nonce{1}, buf)
	mustBe(t, "there and back", buf, drawn(1, 200))
}

// P9.5: of the project's packages api alone, and of the others no random source, no cipher, nothing that reckons the four by itself.
func TestImports(t *testing.T) {
	files, err := filepath.Glob("*.go")
	if err != nil {
		t.Fatal(err)
	}
	allowed := []string{"pintle/api", "math/big", "math/bits", "slices"}
	looked := 0
	for _, name := range files {
		if strings.HasSuffix(name, "_test.go") {
			continue
		}
		looked++
		file, err := parser.ParseFile(token.NewFileSet(), name, nil, parser.ImportsOnly)
		if err != nil {
			t.Fatal(err)
		}
		for _, i := range file.Imports {
			path, err := strconv.Unquote(i.Path.Value)
			if err != nil || !slices.Contains(allowed, path) {
				t.Errorf("%s imports %s", name, i.Path.Value)
			}
		}
	}
	if looked == 0 {
		t.Error("no file was looked at")
	}
}

// pieced is a message in pieces that lie in one list, with room behind each of them and behind the list of them.
func pieced(n int) (room []byte, pieces [][]byte) {
	room = drawn(uint64(n), n+40)
	pieces = [][]byte{room[:n/2], nil, room[n/2 : n], {}, {9}}
	return room, pieces[:4]
}

// mustStay tells whether a message in pieces is as it was made, with the room behind it.
func mustStay(t *testing.T, n int, room []byte, pieces [][]byte) {
	t.Helper()
	mustBe(t, "the room of the pieces", room, drawn(uint64(n), n+40))
	pieces = pieces[:5]
	if pieces[1] != nil || pieces[3] == nil || len(pieces[3]) != 0 || !bytes.Equal(pieces[4], []byte{9}) {
		t.Fatalf("the list of the pieces: %x", pieces)
	}
	mustBe(t, "the first piece", pieces[0], room[:n/2])
	mustBe(t, "the third piece", pieces[2], room[n/2:n])
}

// P9.6: pieces and keys are as they were, with all the room behind them.
func TestHandedInStays(t *testing.T) {
	for _, n := range []int{0, 1, 2, 15, 16, 17, 31, 32, 33, 63, 64, 65, 127, 128, 129, 200} {
		room, pieces := pieced(n)
		slow.Tag(exampleKey(), pieces...)
		mustStay(t, n, room, pieces)
		for k := range 34 {
			secret := drawn(3, 80)
			slow.Digest(20, secret[:k], pieces...)
			mustStay(t, n, room, pieces)
			mustBe(t, "the room of the key", secret, drawn(3, 80))
		}
	}
}

// P9.6: a refused call changes nothing either.
func TestRefusedStays(t *testing.T) {
	room, pieces := pieced(100)
	for _, size := range []int{-1, 0, 16, 33} {
		secret := drawn(3, 80)
		mustRefuse(t, size, secret[:33], pieces...)
		mustStay(t, 100, room, pieces)
		mustBe(t, "the room of the key", secret, drawn(3, 80))
	}
}

// P9.6: nothing that was handed in is kept: written over, it makes no difference to an answer.
func TestNothingIsKept(t *testing.T) {
	key, message := drawn(1, 32), drawn(2, 100)
	sum := mustDigest(t, 32, key, message[:50], message[50:])
	want := slices.Clone(sum)
	tag := slow.Tag(exampleKey(), message)
	clear(key)
	clear(message)
	mustBe(t, "an answer whose arguments were written over", sum, want)
	mustBe(t, "the same call", mustDigest(t, 32, drawn(1, 32), drawn(2, 100)), want)
	mustBe(t, "the same call in one piece again", mustDigest(t, 32, key, message), mustDigest(t, 32, make([]byte, 32), make([]byte, 100)))
	mustTag(t, "the same tag", slow.Tag(exampleKey(), drawn(2, 100)), tag)
}

// P9.6: a digest is new memory, with the room behind it: written over, nothing else changes.
func TestDigestIsNew(t *testing.T) {
	for size := 1; size <= 32; size++ {
		key, message := drawn(1, size), drawn(2, size)
		one, other := mustDigest(t, size, key, message), mustDigest(t, size, key, message)
		want := slices.Clone(one)
		one = one[:cap(one)]
		for i := range one {
			one[i] ^= 0xff
		}
		mustBe(t, "another answer", other, want)
		mustBe(t, "the key", key, drawn(1, size))
		mustBe(t, "the message", message, drawn(2, size))
		mustBe(t, "asked again", mustDigest(t, size, key, message), want)
	}
}

// P9.6: what was asked between makes no difference.
func TestNothingBetween(t *testing.T) {
	k, n := exampleKey(), api.Nonce{5}
	shared, block, tag, sum := slow.Shared(k, full(7)), slow.Block(k, 3, n), slow.Tag(k, k[:]), mustDigest(t, 9, k[:], k[:])
	slow.XOR(full(3), 1, api.Nonce{9}, make([]byte, 100))
	slow.Shared(full(3), full(4))
	slow.Tag(full(3), make([]byte, 21))
	slow.Digest(32, nil, make([]byte, 99))
	slow.Digest(0, nil)
	if slow.Shared(k, full(7)) != shared || slow.Block(k, 3, n) != block || slow.Tag(k, k[:]) != tag {
		t.Error("asked again, an answer is another one")
	}
	mustBe(t, "asked again", mustDigest(t, 9, k[:], k[:]), sum)
}
