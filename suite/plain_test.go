package suite_test

import (
	"encoding/hex"
	"slices"
	"testing"

	"pintle/api"
	"pintle/slow"
	"pintle/suite"
	"pintle/trace"
)

// P10.2
func TestPlain(t *testing.T) {
	for _, q := range questions() {
		want := q.plain()
		mustAnswer(t, "Plain()", q, q.of(suite.Plain()), want)
		mustAnswer(t, "the zero Suite", q, q.of(suite.Suite{}), want)
	}
}

// P10.2: no Recorder hears of it: not one that Of was handed, not one of a Suite beside it.
func TestPlainLogsNothing(t *testing.T) {
	handed, beside := begun(), begun()
	suite.Fast(beside)
	plain := mustOf(t, api.Plain, handed)
	for _, q := range few() {
		want := q.plain()
		for _, s := range []suite.Suite{plain, suite.Plain(), {}} {
			mustAnswer(t, "an engine that does not log", q, q.of(s), want)
		}
	}
	mustSame(t, "Of(Plain, r)", handed, begun())
	mustSame(t, "a Recorder beside", beside, begun())
}

// mustCheck asks every engine: with the right tag, with each that differs in one digit, with such as are beside and with that of another key.
func mustCheck(t *testing.T, s suite.Suite, key api.Key, pieces ...[]byte) {
	t.Helper()
	tag := slow.Tag(key, pieces...)
	if !s.Check(key, tag, pieces...) {
		t.Fatalf("Check of the right tag %x does not hold", tag)
	}
	var wrong []api.Tag
	for i := range 128 {
		near := tag
		near[i/8] ^= 1 << (i % 8)
		wrong = append(wrong, near)
	}
	around := tag
	for i := range around {
		around[i] = ^around[i]
	}
	turned := tag
	slices.Reverse(turned[:])
	wrong = append(wrong, around, turned, slow.Tag(key, append(slices.Clone(pieces), []byte{0})...), api.Tag{}, api.Tag(drawn(77, 16)))
	for _, w := range wrong {
		if w != tag && s.Check(key, w, pieces...) {
			t.Fatalf("Check holds of %x, where the tag is %x", w, tag)
		}
	}
}

// P10.2 (and P10.1, P10.5 of the others)
func TestCheck(t *testing.T) {
	for _, s := range []suite.Suite{suite.Plain(), {}, suite.Fast(nil), suite.Fast(trace.New())} {
		for _, key := range []api.Key{exampleKey(), full(0xff), api.Key(drawn(5, 32))} {
			mustCheck(t, s, key)
			mustCheck(t, s, key, nil, []byte{})
			mustCheck(t, s, key, []byte("keel and rudder"))
			mustCheck(t, s, key, drawn(6, 16), drawn(7, 33), nil, drawn(8, 64))
		}
	}
}

// P10.2: Check is of this key and of these pieces.
func TestCheckOfOthers(t *testing.T) {
	key, tag := exampleKey(), slow.Tag(exampleKey(), []byte("keel"), []byte("son"))
	for _, s := range []suite.Suite{suite.Plain(), {}, suite.Fast(nil)} {
		if !s.Check(key, tag, []byte("keelson")) || !s.Check(key, tag, []byte("k"), nil, []byte("eelson")) {
			t.Error("Check does not hold of the same bytes, cut in another way")
		}
		if s.Check(key, tag, []byte("keel")) || s.Check(key, tag, []byte("son"), []byte("keel")) || s.Check(key, tag) || s.Check(key, tag, []byte("Keelson")) {
			t.Error("Check holds of other bytes")
		}
		if s.Check(full(3), tag, []byte("keelson")) {
			t.Error("Check holds of another key")
		}
	}
}

// P10.2: Hash with no piece, with one and with many: the examples of chapter 8.
func TestHash(t *testing.T) {
	const none = "69217a3079908094e11121d042354a7c1f55b6482ca1a51e1b250dfd1ed0eef9"
	const keel = "1ddcef8accac345552be6c743bbbb0cadbf8c31271326bd6e3087e7be4039628"
	const zeros64 = "ae09db7cd54f42b490ef09b6bc541af688e4959bb8c53f359a6f56e38ab454a3"
	const zeros65 = "857328bf990b00922782d3e81c6054c25d3375d386c7424abe3e01d79041046c"
	for _, s := range []suite.Suite{suite.Plain(), {}, suite.Fast(nil)} {
		for _, x := range []struct {
			want   string
			pieces [][]byte
		}{
			{none, nil}, {none, [][]byte{nil}}, {none, make([][]byte, 100)},
			{keel, [][]byte{[]byte("keel")}}, {keel, [][]byte{[]byte("ke"), nil, []byte("el")}},
			{zeros64, [][]byte{make([]byte, 64)}}, {zeros65, [][]byte{make([]byte, 65)}},
			{zeros65, slices.Collect(slices.Chunk(make([]byte, 65), 1))},
		} {
			if got := s.Hash(x.pieces...); hex.EncodeToString(got[:]) != x.want {
				t.Errorf("engine %d: Hash of %d pieces: %x, not %s", s.Engine(), len(x.pieces), got, x.want)
			}
		}
	}
}
