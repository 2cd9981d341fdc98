package handshake_test

import (
	"math"
	"testing"

	"pintle/api"
	"pintle/handshake"
	"pintle/suite"
)

// P18.4, P0.8: the least length of each message, by hand: with a key and without, s under a key and not, in psk patterns and with fallback.
func TestSizeByHand(t *testing.T) {
	for _, x := range []struct {
		p    api.Pattern
		want []int
	}{
		{modified(t, "N"), []int{48}}, {modified(t, "K"), []int{48}}, {modified(t, "X"), []int{96}},
		{modified(t, "NN"), []int{32, 48}}, {modified(t, "XX"), []int{32, 96, 64}}, {modified(t, "IK"), []int{96, 48}}, {modified(t, "IX"), []int{64, 96}},
		{modified(t, "KX1"), []int{32, 96, 16}}, {modified(t, "X1X1"), []int{32, 96, 64, 16}}, {modified(t, "I1X1"), []int{64, 96, 16}},
		{modified(t, "NN", "psk0"), []int{48, 48}}, {modified(t, "NN", "psk2"), []int{48, 48}}, {modified(t, "IN", "psk0"), []int{96, 48}}, {modified(t, "IN", "psk2"), []int{96, 48}},
		{modified(t, "XX", "psk3"), []int{48, 96, 64}}, {modified(t, "X", "psk1"), []int{96}},
		{modified(t, "XX", "fallback"), []int{96, 64}}, {modified(t, "XX", "fallback", "psk0"), []int{96, 64}}, {modified(t, "IX", "fallback"), []int{96}},
		{made("", "", "e"), []int{32}}, {made("", "", "s"), []int{32}}, {made("", "", "s, e"), []int{64}}, {made("", "", "e, s; e, s"), []int{64, 64}},
		{made("", "", "s, e; s, e, psk"), []int{80, 96}}, // s ahead of the first e is open, psk or not
		{made("e", "", "s; e, psk"), []int{64, 48}},      // the e that is known ahead has made a key
		{made("e", "", "s; e"), []int{32, 32}},
		{begun(second, "e", "e", "psk; s"), []int{16, 64}},
		{made("e, s", "e, s", "ee, es, se, ss"), []int{16}},
		{made("e", "e", "psk; psk; psk"), []int{16, 16, 16}},
	} {
		both := sides(t, x.p, 24)
		for _, want := range x.want {
			for _, o := range both {
				if got, err := o.size(0); got != want || err != nil {
					t.Errorf("%v, message %d: %d, %v, not %d", x.p, o.m.gone, got, err, want)
				}
			}
			pass(both, []byte("hail"))
		}
	}
}

// P18.4: Size of payloads below 0, at the limit, above it and far above it, of both sides, at every message.
func TestSizeEdges(t *testing.T) {
	inParts(t, append(tabled(), untabled()...), func(t *testing.T, i int, p api.Pattern) {
		both := sides(t, p, 25)
		for message := range p.Lines {
			least := leastOf(p, message)
			most := limit - least
			for _, o := range both {
				for n, want := range map[int]error{
					-1: api.ErrArg, -2: api.ErrArg, -least: api.ErrArg, math.MinInt: api.ErrArg, math.MinInt + least: api.ErrArg, -1 << 32: api.ErrArg,
					0: nil, 1: nil, 1000: nil, most - 1: nil, most: nil,
					most + 1: api.ErrLong, limit: api.ErrLong, limit + 1: api.ErrLong, 1 << 32: api.ErrLong, 1<<32 + 1: api.ErrLong, math.MaxInt: api.ErrLong, math.MaxInt - least: api.ErrLong, math.MaxInt - least + 1: api.ErrLong,
				} {
					got, err := o.size(n)
					if err != want || err == nil && got != least+n || err != nil && got != 0 {
						t.Fatalf("Size(%d) of %v, message %d: %d, %v", n, p, message, got, err)
					}
				}
			}
			pass(both, nil)
		}
		for _, o := range both {
			for n, want := range map[int]error{-1: api.ErrArg, math.MinInt: api.ErrArg, 0: api.ErrOver, limit + 1: api.ErrOver, math.MaxInt: api.ErrOver} {
				if got, err := o.size(n); got != 0 || err != want {
					t.Fatalf("Size(%d) of %v, over: %d, %v", n, p, got, err)
				}
			}
		}
	})
}

// P18.4: of a dead State.
func TestSizeDead(t *testing.T) {
	o := sides(t, modified(t, "XX"), 26)[second]
	o.read(nil)
	for n, want := range map[int]error{-1: api.ErrArg, math.MinInt: api.ErrArg, 0: api.ErrDead, limit: api.ErrDead, limit + 1: api.ErrDead, math.MaxInt: api.ErrDead} {
		if got, err := o.size(n); got != 0 || err != want {
			t.Errorf("Size(%d): %d, %v", n, got, err)
		}
	}
}

// P18.12: a message that is written is as long as Size told ahead of it, to both sides; one that is read has a payload shorter by Size(0).
func TestSizeHolds(t *testing.T) {
	all := append(everyModified(t), untabled()...)
	inParts(t, append(all, drawnPatterns(27, 80)...), func(t *testing.T, i int, p api.Pattern) {
		u := setups(p, 28)
		var both [2]*handshake.State
		for side := range both {
			h, err := handshake.New(suite.Fast(nil), p, u[side])
			if err != nil {
				t.Fatal(err)
			}
			both[side] = h
		}
		d := draw(i)
		for range p.Lines {
			from := both[first].Turn()
			payload := d.bytes(d.below(200))
			told, err1 := both[from].Size(len(payload))
			same, err2 := both[1-from].Size(len(payload))
			least, err3 := both[1-from].Size(0)
			message, err4 := both[from].Write(payload)
			read, err5 := both[1-from].Read(message)
			if err1 != nil || err2 != nil || err3 != nil || err4 != nil || err5 != nil {
				t.Fatalf("%v: %v, %v, %v, %v, %v", p, err1, err2, err3, err4, err5)
			}
			if len(message) != told || told != same || len(read) != len(message)-least || string(read) != string(payload) {
				t.Fatalf("%v: %d bytes, not %d, %d; %d of them", p, len(message), told, same, len(read))
			}
		}
	})
}

// P18.12: any bytes that are not refused, too, have a payload shorter by Size(0).
func TestSizeOfAnyBytes(t *testing.T) {
	d := draw(29)
	p := made("", "", "e, s; e, s") // without a secret, all is open
	for range 50 {
		o := sides(t, p, 30)[second]
		message := d.bytes(d.below(200))
		payload, err := o.read(message)
		if want := len(message) - 64; err == nil && len(payload) != want || (err == nil) != (want >= 0) {
			t.Errorf("%d bytes: %d, %v", len(message), len(payload), err)
		}
	}
}
