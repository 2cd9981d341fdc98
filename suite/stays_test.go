package suite_test

import (
	"bytes"
	"math"
	"slices"
	"testing"

	"pintle/api"
	"pintle/suite"
	"pintle/trace"
)

// engines are all there are, with a Recorder and without.
func engines() []suite.Suite {
	return []suite.Suite{suite.Fast(nil), suite.Fast(trace.New()), suite.Plain(), {}}
}

func mustBe(t *testing.T, what string, got, want []byte) {
	t.Helper()
	if !bytes.Equal(got, want) {
		t.Fatalf("%s: %x, not %x", what, got, want)
	}
}

// pieced is a message in pieces that lie in one list, with room behind each of them and behind the list of them.
func pieced(n int) (room []byte, pieces [][]byte) {
	room = drawn(uint64(n), n+100)
	pieces = [][]byte{room[:n/2], nil, room[n/2 : n], {}, {9}}
	return room, pieces[:4]
}

// mustStay tells whether a message in pieces is as it was made, with the room behind it.
func mustStay(t *testing.T, n int, room []byte, pieces [][]byte) {
	t.Helper()
	mustBe(t, "the room of the pieces", room, drawn(uint64(n), n+100))
	pieces = pieces[:5]
	if pieces[1] != nil || pieces[3] == nil || len(pieces[3]) != 0 || !bytes.Equal(pieces[4], []byte{9}) {
		t.Fatalf("the list of the pieces: %x", pieces)
	}
	mustBe(t, "the first piece", pieces[0], room[:n/2])
	mustBe(t, "the third piece", pieces[2], room[n/2:n])
	if n > 1 && (&pieces[0][0] != &room[0] || &pieces[2][0] != &room[n/2]) {
		t.Fatal("the list of the pieces has other pieces")
	}
}

// P10.6: pieces are as they were, with all the room behind them.
func TestPiecesStay(t *testing.T) {
	key := exampleKey()
	for _, s := range engines() {
		for _, n := range []int{0, 1, 2, 15, 16, 17, 31, 32, 33, 63, 64, 65, 127, 128, 129, 200} {
			room, pieces := pieced(n)
			tag := s.Tag(key, pieces...)
			mustStay(t, n, room, pieces)
			s.Check(key, tag, pieces...)
			mustStay(t, n, room, pieces)
			s.Check(key, api.Tag{}, pieces...)
			mustStay(t, n, room, pieces)
			s.Hash(pieces...)
			mustStay(t, n, room, pieces)
		}
	}
}

// P10.6: keys, numbers and tags are values: the caller's stay.
func TestValuesStay(t *testing.T) {
	for _, s := range engines() {
		key, other, nonce, tag := exampleKey(), full(0xff), exampleNonce(), api.Tag(drawn(1, 16))
		s.Shared(key, other)
		s.Public(other)
		s.Stream(key, 1, nonce, make([]byte, 100))
		s.Tag(other, key[:], other[:])
		s.Check(key, tag, key[:], nonce[:], tag[:])
		s.Hash(key[:], other[:], nonce[:], tag[:])
		if key != exampleKey() || other != full(0xff) || nonce != exampleNonce() || tag != api.Tag(drawn(1, 16)) {
			t.Error("a key, a number or a tag that was handed in is another one")
		}
	}
}

// P10.6: nothing is kept: what was handed in and is written over makes no difference to what comes behind it.
func TestNothingIsKept(t *testing.T) {
	want := suite.Plain()
	for _, s := range engines() {
		message, buf := drawn(2, 200), drawn(3, 200)
		pieces := [][]byte{message[:90], message[90:]}
		s.Tag(full(3), pieces...)
		s.Hash(pieces...)
		s.Check(full(3), api.Tag{}, pieces...)
		s.Stream(full(3), 5, api.Nonce{9}, buf)
		turned := slices.Clone(buf)
		clear(message)
		clear(pieces)
		if s.Tag(exampleKey(), drawn(2, 200)) != want.Tag(exampleKey(), drawn(2, 200)) || s.Hash(drawn(2, 200)) != want.Hash(drawn(2, 200)) {
			t.Error("something is kept of what was handed in")
		}
		if s.Hash() != want.Hash() || s.Tag(exampleKey()) != want.Tag(exampleKey()) {
			t.Error("something is kept of the pieces of an earlier call")
		}
		s.Stream(full(4), 5, api.Nonce{9}, drawn(4, 200))
		mustBe(t, "a buf that was turned by an earlier call", buf, turned)
	}
}

// P10.6: what a call answers hangs on nothing that was asked between.
func TestNothingBetween(t *testing.T) {
	for _, s := range engines() {
		var first []any
		for _, q := range few() {
			first = append(first, q.of(s))
		}
		s.Shared(full(1), full(2))
		s.Stream(full(1), 0, api.Nonce{}, make([]byte, 300))
		s.Tag(full(1), make([]byte, 99))
		s.Hash(make([]byte, 99))
		for i, q := range few() {
			mustAnswer(t, "asked again", q, q.of(s), first[i])
		}
	}
}

// P10.6: Stream turns the slice's length, in place, nothing ahead of it and nothing behind its end.
func TestStreamTurnsItsLength(t *testing.T) {
	const margin = 300 // more than four blocks
	for _, s := range engines() {
		for _, n := range []int{0, 1, 2, 15, 63, 64, 65, 127, 128, 129, 255, 256, 257, 319, 320, 321, 512, 700} {
			for _, counter := range []uint32{0, 1, math.MaxUint32 - 1, math.MaxUint32} {
				mustTurn(t, s, counter, n, margin)
			}
		}
	}
}

// mustTurn holds Stream of n bytes in the midst of a list against the bytes that the same stream makes of zeros; twice, all is as it was.
func mustTurn(t *testing.T, s suite.Suite, counter uint32, n, margin int) {
	t.Helper()
	was := drawn(uint64(n), margin+n+margin)
	pad := make([]byte, n)
	s.Stream(exampleKey(), counter, exampleNonce(), pad)
	want := slices.Clone(was)
	for i, b := range pad {
		want[margin+i] ^= b
	}
	all := slices.Clone(was)
	s.Stream(exampleKey(), counter, exampleNonce(), all[margin:margin+n])
	mustBe(t, "turned in the midst of a list", all, want)
	s.Stream(exampleKey(), counter, exampleNonce(), all[margin:margin+n])
	mustBe(t, "there and back", all, was)
}

// P10.6: without a byte nothing is turned.
func TestStreamOfNothing(t *testing.T) {
	for _, s := range engines() {
		room := drawn(1, 300)
		s.Stream(exampleKey(), 0, exampleNonce(), nil)
		s.Stream(exampleKey(), 0, exampleNonce(), []byte{})
		s.Stream(exampleKey(), 0, exampleNonce(), room[:0])
		s.Stream(exampleKey(), math.MaxUint32, exampleNonce(), room[150:150])
		s.Stream(exampleKey(), 0, exampleNonce(), room[300:])
		mustBe(t, "the room", room, drawn(1, 300))
	}
}
