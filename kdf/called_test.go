package kdf_test

import (
	"bytes"
	"fmt"
	"testing"

	"pintle/api"
	"pintle/kdf"
	"pintle/suite"
	"pintle/trace"
)

// handMade asks s for just the digests that the formula of HMAC names, with its pieces.
func handMade(s suite.Suite, key []byte, pieces ...[]byte) api.Key {
	if len(key) > 64 {
		short := s.Hash(key)
		key = short[:]
	}
	turned := func(by byte) []byte {
		k := bytes.Repeat([]byte{by}, 64)
		for i := range key {
			k[i] ^= key[i]
		}
		return k
	}
	all := [][]byte{turned(0x36)}
	for _, p := range pieces {
		all = append(all, p)
	}
	inner := s.Hash(all...)
	return s.Hash(turned(0x5c), inner[:])
}

// handMadeKeys asks for the HMACs that the formula of Two names, and of Three, if there is to be a third.
func handMadeKeys(s suite.Suite, chain api.Key, in []byte, third bool) {
	t := handMade(s, chain[:], in)
	a := handMade(s, t[:], []byte{1})
	b := handMade(s, t[:], a[:], []byte{2})
	if third {
		handMade(s, t[:], b[:], []byte{3})
	}
}

// traced is what a call logs on the fast engine.
func traced(call func(s suite.Suite)) *trace.Recorder {
	r := trace.New()
	call(suite.Fast(r))
	return r
}

// digests is how many digests are in a trace: a new one alone asks for four branches in a row and goes into none.
func digests(r *trace.Recorder) int {
	n := 0
	for _, run := range r.Runs() {
		if run.Event == (api.Event{Kind: api.EventIf, Value: 0}) && run.Times >= 4 {
			n++
		}
	}
	return n
}

func mustLog(t *testing.T, what string, got, want *trace.Recorder, asked int) {
	t.Helper()
	if n := digests(got); n != asked {
		t.Fatalf("%s: %d digests, not %d", what, n, asked)
	}
	if !trace.Same(got, want) {
		t.Fatalf("%s: %v, not %v", what, got.Runs(), want.Runs())
	}
}

// P12.4: HMAC asks for two digests, three with a key of more than 64 bytes, each of the pieces that the formula names.
func TestHMACCalls(t *testing.T) {
	for _, key := range keys() {
		asked := 2
		if len(key) > 64 {
			asked = 3
		}
		for p, pieces := range lists() {
			got := traced(func(s suite.Suite) { kdf.HMAC(s, key, pieces...) })
			want := traced(func(s suite.Suite) { handMade(s, key, pieces...) })
			mustLog(t, fmt.Sprintf("a key of %d bytes, list %d", len(key), p), got, want, asked)
		}
	}
}

// P12.4: Two asks for six digests, Three for eight; in is a piece even where it has no byte.
func TestKeysCalls(t *testing.T) {
	for _, chain := range chains() {
		for _, in := range ins() {
			what := fmt.Sprintf("%d bytes", len(in))
			two := traced(func(s suite.Suite) { kdf.Two(s, chain, in) })
			mustLog(t, "Two of "+what, two, traced(func(s suite.Suite) { handMadeKeys(s, chain, in, false) }), 6)
			three := traced(func(s suite.Suite) { kdf.Three(s, chain, in) })
			mustLog(t, "Three of "+what, three, traced(func(s suite.Suite) { handMadeKeys(s, chain, in, true) }), 8)
		}
	}
}

// P12.4: the trace of HMAC of no piece with no key, event by event: I alone, then O and the inner digest.
func TestHMACLogs(t *testing.T) {
	no, yes := api.Event{Kind: api.EventIf}, api.Event{Kind: api.EventIf, Value: 1}
	press := api.Event{Kind: api.EventOp, Value: api.OpPress}
	at := func(i int) api.Event { return api.Event{Kind: api.EventAt, Value: i} }
	want := []api.Event{
		no, no, no, no, // the inner digest is made
		yes, at(0), yes, no, at(0), at(64), no, // I
		no, at(64), press, // no piece more
		no, no, no, no, // the outer one is made
		yes, at(0), yes, no, at(0), at(64), no, // O
		yes, at(1), yes, yes, press, at(0), at(32), no, // the inner digest
		no, at(32), press,
	}
	got := traced(func(s suite.Suite) { kdf.HMAC(s, nil) }).Events()
	if fmt.Sprint(got) != fmt.Sprint(want) {
		t.Errorf("%v, not %v", got, want)
	}
}

// P12.4: what is logged hangs on lengths alone.
func TestLoggedByLengths(t *testing.T) {
	for _, n := range keyLengths() {
		for _, m := range inLengths() {
			one := traced(func(s suite.Suite) { kdf.HMAC(s, drawn(1, n), drawn(2, m), drawn(3, 9)) })
			other := traced(func(s suite.Suite) { kdf.HMAC(s, make([]byte, n), make([]byte, m), make([]byte, 9)) })
			if !trace.Same(one, other) {
				t.Fatalf("HMAC of %d bytes with a key of %d: two traces", m, n)
			}
			one = traced(func(s suite.Suite) { kdf.Three(s, api.Key(drawn(4, 32)), drawn(2, m)) })
			other = traced(func(s suite.Suite) { kdf.Three(s, api.Key{}, make([]byte, m)) })
			if !trace.Same(one, other) {
				t.Fatalf("Three of %d bytes: two traces", m)
			}
		}
	}
}
