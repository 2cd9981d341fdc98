package handshake_test

import (
	"bytes"
	"slices"
	"strings"
	"testing"

	"pintle/api"
	"pintle/suite"
	"pintle/symmetric"
)

// alone is one side of a pattern, with so many draws, behind messages that it has read and written itself; the other side's are handed over.
func alone(t *testing.T, p api.Pattern, side, messages, draws int) *one {
	t.Helper()
	u := setups(p, 11)
	for i := range u {
		u[i].Draws = append(u[i].Draws, api.Key{7}, api.Key{8})
	}
	u[side].Draws = u[side].Draws[:draws]
	both := [2]*one{sideOf(t, suite.Fast(nil), suite.Fast(nil), p, u[first]), sideOf(t, suite.Fast(nil), suite.Fast(nil), p, u[second])}
	for range messages {
		pass(both, []byte("hail"))
	}
	return both[side]
}

// P18.2: each error, with all that comes behind it true as well.
func TestWriteRefused(t *testing.T) {
	long := make([]byte, limit+1)
	xx := modified(t, "XX")
	dead := func() *one {
		o := alone(t, xx, second, 0, 0) // the other's turn, and no draw for the next one
		o.read(nil)
		return o
	}
	over := func() *one { return alone(t, modified(t, "NK"), first, 2, 1) } // the draw is used up
	for _, x := range []struct {
		what    string
		o       *one
		payload []byte
		want    error
	}{
		{"dead", dead(), nil, api.ErrDead},
		{"dead, too long", dead(), long, api.ErrDead},
		{"over", over(), nil, api.ErrOver},
		{"over, too long", over(), long, api.ErrOver},
		{"the other's", alone(t, xx, second, 0, 1), nil, api.ErrTurn},
		{"the other's, without a draw", alone(t, xx, second, 0, 0), nil, api.ErrTurn},
		{"the other's, too long", alone(t, xx, second, 0, 1), long, api.ErrTurn},
		{"the other's, without a draw, too long", alone(t, xx, second, 0, 0), long, api.ErrTurn},
		{"the other's without an e", alone(t, xx, second, 2, 1), long, api.ErrTurn},
		{"the other's second one", alone(t, xx, first, 1, 1), long, api.ErrTurn},
		{"without a draw", alone(t, xx, first, 0, 0), nil, api.ErrDraw},
		{"without a draw, too long", alone(t, xx, first, 0, 0), long, api.ErrDraw},
		{"without a draw, in the midst", alone(t, xx, second, 1, 0), long, api.ErrDraw},
		{"too long", alone(t, xx, first, 0, 1), long, api.ErrLong},
		{"too long, no e", alone(t, xx, first, 2, 1), long, api.ErrLong},
		{"too long by one", alone(t, xx, first, 2, 1), long[:limit-64+1], api.ErrLong},
	} {
		for range 3 {
			if _, err := x.o.write(x.payload); err != x.want {
				t.Errorf("%s: %v, not %v", x.what, err, x.want)
			}
		}
	}
}

// P18.2: a message in which no e stands asks for no draw.
func TestWriteWithoutDraw(t *testing.T) {
	for _, p := range []api.Pattern{made("", "", "s"), made("e, s", "e, s", "ee, es, se, ss; psk"), made("e", "e", "psk; s")} {
		u := setups(p, 12)
		u[first].Draws, u[second].Draws = nil, nil
		both := [2]*one{sideOf(t, suite.Fast(nil), suite.Fast(nil), p, u[first]), sideOf(t, suite.Plain(), suite.Fast(nil), p, u[second])}
		for range p.Lines {
			pass(both, []byte("hail"))
		}
	}
}

// P18.2, P18.11: a write that is refused changes nothing and uses no draw: the message behind it is the one that comes without it.
func TestWriteRefusedChangesNothing(t *testing.T) {
	long := make([]byte, limit+1)
	for _, p := range append(tabled(), untabled()...) {
		both, calm := sides(t, p, 13), sides(t, p, 13)
		for range p.Lines {
			from := both[first].m.turn()
			for _, payload := range [][]byte{long, long[:limit-leastOf(p, both[from].m.gone)+1]} {
				if _, err := both[from].write(payload); err != api.ErrLong {
					t.Fatalf("%v: %v", p, err)
				}
				if _, err := both[1-from].write(payload); err != api.ErrTurn {
					t.Fatalf("%v: %v", p, err)
				}
			}
			message, same := both[from].mustWrite([]byte("hail")), calm[from].mustWrite([]byte("hail"))
			if !bytes.Equal(message, same) {
				t.Fatalf("%v: %x, not %x", p, message, same)
			}
			both[1-from].mustRead(message, []byte("hail"))
			calm[1-from].mustRead(same, []byte("hail"))
		}
	}
}

// P18.2: payloads of none, of some, of as many bytes as go into a message, and of one more, at each message of patterns of every kind.
func TestWritePayloads(t *testing.T) {
	all := []api.Pattern{modified(t, "NN"), modified(t, "XX"), modified(t, "IK"), modified(t, "X1X1"), modified(t, "NN", "psk0"), modified(t, "XX", "psk1", "psk3"), modified(t, "IX", "fallback"), modified(t, "X"), made("", "", "e; s, e, psk"), made("", "", "s")}
	inParts(t, all, func(t *testing.T, i int, p api.Pattern) {
		d := draw(14)
		for _, n := range []int{0, 1, 15, 16, 17, 64, 300, 4096, -1} {
			both := sides(t, p, 15)
			for message := range p.Lines {
				most := limit - leastOf(p, message)
				size := n
				if n < 0 {
					size = most
				}
				payload := d.bytes(most + 1)
				if _, err := both[both[first].m.turn()].write(payload); err != api.ErrLong {
					t.Fatalf("%v: a payload of %d bytes: %v", p, most+1, err)
				}
				pass(both, payload[:size])
			}
		}
	})
}

// P18.2: the pieces of each kind of token, by hand: a psk pattern and one without a psk, both with e, s open and sealed, each secret and the payload.
func TestWriteByHand(t *testing.T) {
	for _, x := range []struct{ i, r, messages string }{
		{"", "s", "s, e, es, ss"},
		{"", "s", "psk, e, es, s, ss, psk"},
		{"", "e, s", "s, e, ee, se, es, ss"},
		{"", "e, s", "psk, e, ee, s, se, es, psk, ss"},
		{"s", "e", "e, ee, se"},
	} {
		p := made(x.i, x.r, x.messages)
		u := setups(p, 16)
		o := sideOf(t, suite.Fast(nil), suite.Fast(nil), p, u[first])
		got := o.mustWrite([]byte("hail"))

		y := symmetric.New(suite.Plain(), []byte(u[first].Name))
		y.MixHash(u[first].Prologue)
		mixPublic := func(key api.Key, isE bool) {
			y.MixHash(key[:])
			if isE && len(u[first].Psks) > 0 {
				y.MixKey(key[:])
			}
		}
		for _, word := range strings.Split(x.i+", ;, "+x.r, ", ") {
			switch {
			case word == "e":
				mixPublic(publicOf(u[second].Former), true)
			case word == "s" && x.i == "s":
				mixPublic(publicOf(u[first].Static), false)
			case word == "s":
				mixPublic(publicOf(u[second].Static), false)
			}
		}
		own := map[byte]api.Key{'e': u[first].Draws[0], 's': u[first].Static}
		other := map[byte]api.Key{'e': publicOf(u[second].Former), 's': publicOf(u[second].Static)}
		var want []byte
		sealed := func(data []byte) []byte {
			buf := append(slices.Clone(data), make([]byte, 16)...)
			n, err := y.Seal(buf, len(data))
			if err != nil {
				t.Fatal(err)
			}
			return buf[:n]
		}
		psks := 0
		for _, word := range strings.Split(x.messages, ", ") {
			switch word {
			case "e":
				public := publicOf(own['e'])
				want = append(want, public[:]...)
				mixPublic(public, true)
			case "s":
				public := publicOf(own['s'])
				want = append(want, sealed(public[:])...)
			case "psk":
				y.MixKeyAndHash(u[first].Psks[psks][:])
				psks++
			default:
				shared := suite.Plain().Shared(own[word[0]], other[word[1]])
				y.MixKey(shared[:])
			}
		}
		want = append(want, sealed([]byte("hail"))...)
		if !bytes.Equal(got, want) || o.h.Hash() != y.Hash() {
			t.Errorf("%s: %x, not %x", x.messages, got, want)
		}
	}
}
