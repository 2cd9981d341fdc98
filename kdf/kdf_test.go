package kdf_test

import (
	"bytes"
	"crypto/hmac"
	"encoding/hex"
	"hash"
	"slices"
	"testing"

	"pintle/api"
	"pintle/slow"
	"pintle/suite"
	"pintle/trace"
)

// drawn is bytes by a fixed rule, so that every run sees the same ones; each seed has its own.
func drawn(seed uint64, n int) []byte {
	list := make([]byte, n)
	x := seed
	for i := range list {
		x = x*6364136223846793005 + 1442695040888963407
		list[i] = byte(x >> 56)
	}
	return list
}

// engines are all there are, with a Recorder and without.
func engines() []suite.Suite {
	return []suite.Suite{suite.Fast(trace.New()), suite.Fast(nil), suite.Plain(), {}}
}

// keyLengths are those on both sides of a key's own, of a block's, and of two blocks'.
func keyLengths() []int { return []int{0, 1, 31, 32, 33, 63, 64, 65, 128, 200} }

// keys are drawn ones of all these lengths, and such as hold one byte alone; a nil one is among them.
func keys() [][]byte {
	all := [][]byte{nil}
	for i, n := range keyLengths() {
		all = append(all, drawn(uint64(i), n), make([]byte, n), bytes.Repeat([]byte{0xff}, n))
	}
	return all
}

// lists are lists of pieces: none, such as have no byte, one, and many.
func lists() [][][]byte {
	all := [][][]byte{nil, {}, {nil}, {{}}, {nil, {}, nil}, {nil, drawn(50, 5), {}, drawn(51, 60), nil}}
	for _, n := range inLengths() {
		all = append(all, [][]byte{drawn(52, n)})
	}
	var many [][]byte
	for n := range 40 {
		many = append(many, drawn(uint64(60+n), n))
	}
	return append(all, many, slices.Repeat([][]byte{{0x3a}}, 130))
}

// inLengths are nothing, one byte, a key's length, and those about one block and more.
func inLengths() []int { return []int{0, 1, 31, 32, 33, 63, 64, 65, 127, 128, 129, 1000} }

// ins are bytes of these lengths; nil is among them.
func ins() [][]byte {
	all := [][]byte{nil}
	for i, n := range inLengths() {
		all = append(all, drawn(uint64(200+i), n))
	}
	return all
}

// chains are chaining keys: drawn ones and those at both ends.
func chains() []api.Key {
	return []api.Key{{}, api.Key(bytes.Repeat([]byte{0xff}, 32)), {0: 1}, {31: 0x80}, api.Key(drawn(300, 32)), api.Key(drawn(301, 32))}
}

// wholeDigest is slow's digest as Go's own HMAC wants it.
type wholeDigest struct{ taken []byte }

func newWhole() hash.Hash { return &wholeDigest{} }

func (d *wholeDigest) Write(p []byte) (int, error) {
	d.taken = append(d.taken, p...)
	return len(p), nil
}

func (d *wholeDigest) Sum(ahead []byte) []byte {
	sum, _ := slow.Digest(32, nil, d.taken)
	return append(ahead, sum...)
}

func (d *wholeDigest) Reset()         { d.taken = nil }
func (d *wholeDigest) Size() int      { return 32 }
func (d *wholeDigest) BlockSize() int { return 64 }

// wanted is what HMAC is to answer: Go's own of the message in one piece, by package slow alone.
func wanted(key []byte, message ...byte) api.Key {
	m := hmac.New(newWhole, key)
	m.Write(message)
	return api.Key(m.Sum(nil))
}

// wantedThree is the three keys of a chaining key, by the same way.
func wantedThree(chain api.Key, in []byte) (keys [3]api.Key) {
	t := wanted(chain[:], in...)
	keys[0] = wanted(t[:], 1)
	keys[1] = wanted(t[:], append(keys[0][:], 2)...)
	keys[2] = wanted(t[:], append(keys[1][:], 3)...)
	return keys
}

func mustBe(t *testing.T, what string, got, want api.Key) {
	t.Helper()
	if got != want {
		t.Fatalf("%s: %x, not %x", what, got, want)
	}
}

func mustRead(t *testing.T, what string, got api.Key, want string) {
	t.Helper()
	if hex.EncodeToString(got[:]) != want {
		t.Errorf("%s: %x, not %s", what, got, want)
	}
}
