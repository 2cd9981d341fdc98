package handshake_test

import (
	"bytes"
	"testing"

	"pintle/api"
	"pintle/handshake"
	"pintle/suite"
)

// P18.3: each error, with all that comes behind it true as well; ErrDead, ErrOver, ErrTurn and ErrLong leave everything as it was.
func TestReadRefused(t *testing.T) {
	long := make([]byte, limit+1)
	xx := modified(t, "XX")
	dead := func() *one {
		o := alone(t, xx, second, 0, 1)
		o.read(nil)
		return o
	}
	for _, x := range []struct {
		what    string
		o       *one
		message []byte
		want    error
	}{
		{"dead", dead(), make([]byte, 32), api.ErrDead},
		{"dead, too long", dead(), long, api.ErrDead},
		{"dead, too short", dead(), nil, api.ErrDead},
		{"over", alone(t, xx, first, 3, 1), make([]byte, 64), api.ErrOver},
		{"over, too long", alone(t, xx, second, 3, 1), long, api.ErrOver},
		{"over, too short", alone(t, xx, second, 3, 1), nil, api.ErrOver},
		{"the own one", alone(t, xx, first, 0, 1), make([]byte, 32), api.ErrTurn},
		{"the own one, too long", alone(t, xx, first, 0, 1), long, api.ErrTurn},
		{"the own one, too short", alone(t, xx, second, 1, 1), nil, api.ErrTurn},
		{"the own one, without a draw", alone(t, xx, first, 0, 0), nil, api.ErrTurn},
		{"the own one, not authentic", alone(t, xx, first, 2, 1), make([]byte, 64), api.ErrTurn},
		{"too long", alone(t, xx, second, 0, 1), long, api.ErrLong},
		{"too long, not authentic", alone(t, xx, first, 1, 1), long, api.ErrLong},
		{"far too long", alone(t, xx, first, 1, 1), make([]byte, 1<<20), api.ErrLong},
	} {
		was := x.o.h.Dead()
		for range 3 {
			if _, err := x.o.read(x.message); err != x.want || x.o.h.Dead() != was {
				t.Errorf("%s: %v, not %v", x.what, err, x.want)
			}
		}
	}
}

// P18.3: ErrShort, ErrStatic and ErrAuth, in this order, and what is dead behind them.
func TestReadFails(t *testing.T) {
	xx := modified(t, "XX")
	both := passed(t, xx, 17, 1)
	right := both[second].mustWrite([]byte("ho"))
	turned := func(places ...int) []byte {
		m := bytes.Clone(right)
		for _, at := range places {
			m[at] ^= 1
		}
		return m
	}
	for _, x := range []struct {
		what    string
		message []byte
		want    error
	}{
		{"nothing", nil, api.ErrShort},
		{"a byte too few", right[:95], api.ErrShort},
		{"a byte too few, and turned", turned(40)[:95], api.ErrShort},
		{"no payload, but another tag", right[:96], api.ErrAuth},
		{"an e turned: another key", turned(0), api.ErrStatic},
		{"the static key turned", turned(32), api.ErrStatic},
		{"the static key's last byte turned", turned(63), api.ErrStatic},
		{"the static key's tag turned", turned(79), api.ErrStatic},
		{"the static key and the payload turned", turned(40, 80), api.ErrStatic},
		{"the payload turned", turned(80), api.ErrAuth},
		{"the payload's tag turned", turned(97), api.ErrAuth},
		{"a byte less", right[:97], api.ErrAuth},
		{"a byte more", append(bytes.Clone(right), 0), api.ErrAuth},
		{"as many as may be", append(bytes.Clone(right), make([]byte, limit-98)...), api.ErrAuth},
		{"right", right, nil},
	} {
		o := passed(t, xx, 17, 1)[first]
		if _, err := o.read(x.message); err != x.want || o.h.Dead() != (x.want != nil) {
			t.Errorf("%s: %v, dead %v", x.what, err, o.h.Dead())
		}
	}
}

// fragile are patterns that fail in every way: with an s that is open, sealed, ahead of the e; with a psk ahead and behind; without an e; one-way; with e known ahead.
func fragile(t *testing.T) []api.Pattern {
	t.Helper()
	return []api.Pattern{
		modified(t, "NN"), modified(t, "XX"), modified(t, "IK"), modified(t, "X"), modified(t, "IX", "psk0"), modified(t, "XX", "fallback"), modified(t, "XX", "fallback", "psk0", "psk2"),
		made("", "", "e; s, e, psk"), made("", "", "s, e; s, e, ee, se, es, ss"), made("e, s", "e, s", "psk, ee, es, se, ss; psk; psk, psk"), made("", "", "s"),
	}
}

// again is one side as far as another one has come, to which these messages went; what it is to be is known from there.
func again(t *testing.T, p api.Pattern, u api.Setup, like *model, messages [][]byte) *one {
	t.Helper()
	h, err := handshake.New(suite.Fast(nil), p, u)
	if err != nil {
		t.Fatal(err)
	}
	for _, message := range messages {
		if (h.Turn() == first) == u.Initiator {
			_, err = h.Write([]byte("hail"))
		} else {
			_, err = h.Read(message)
		}
		if err != nil {
			t.Fatal(err)
		}
	}
	m := *like
	o := &one{t, p, h, &m}
	o.hold()
	return o
}

// reads hands each altered form of each message of a pattern to a side that is ready for it.
func reads(t *testing.T, p api.Pattern, altered func(message int, right []byte) [][]byte) {
	t.Helper()
	both := sides(t, p, 18)
	var messages [][]byte
	for n := range p.Lines {
		from := both[first].m.turn()
		reader := *both[1-from].m
		right := both[from].mustWrite([]byte("hail"))
		for _, bytes := range altered(n, right) {
			fresh := again(t, p, setups(p, 18)[1-from], &reader, messages)
			fresh.read(bytes)
			fresh.split()
			if fresh.h.Dead() {
				fresh.read(right)
				fresh.size(0)
				fresh.write(nil)
			}
		}
		messages = append(messages, right)
		both[1-from].mustRead(right, []byte("hail"))
	}
}

// P18.3, P0.10: messages of every length about the least one, those that are cut and those of any bytes.
func TestReadLengths(t *testing.T) {
	d := draw(19)
	inParts(t, fragile(t), func(t *testing.T, i int, p api.Pattern) {
		d := d + draw(i)
		reads(t, p, func(message int, right []byte) [][]byte {
			var all [][]byte
			least := leastOf(p, message)
			for n := range least + 20 {
				if n < 34 || n > least-20 || n > 46 && n < 50 || n > 76 && n < 84 {
					all = append(all, append(bytes.Clone(right), d.bytes(20)...)[:n], d.bytes(n))
				}
			}
			return append(all, d.bytes(limit), d.bytes(limit-1))
		})
	})
}

// P18.3: a bit turned at any place.
func TestReadTurned(t *testing.T) {
	inParts(t, fragile(t), func(t *testing.T, i int, p api.Pattern) {
		d := draw(20 + i)
		reads(t, p, func(message int, right []byte) [][]byte {
			var all [][]byte
			for at := range right {
				turned := bytes.Clone(right)
				turned[at] ^= 1 << d.below(8)
				all = append(all, turned)
			}
			return all
		})
	})
}

// P18.3: the pieces are taken from the front; where nothing is sealed, any bytes are a message.
func TestReadOpenPieces(t *testing.T) {
	d := draw(21)
	p := made("", "", "s, e; e")
	for _, engine := range engines() {
		for _, n := range []int{0, 1, 100, limit - 64} {
			o := sideOf(t, engine, suite.Fast(nil), p, setups(p, 22)[second])
			message := d.bytes(64 + n)
			o.mustRead(message, message[64:])
			remote, _ := o.h.Remote()
			met, _ := o.h.Met()
			if remote != api.Key(message[:32]) || met != api.Key(message[32:64]) {
				t.Errorf("%x, %x of %x", remote, met, message[:64])
			}
		}
	}
}

// P18.3: keys of any bytes are taken, those too that make the same secret of every private key.
func TestReadAnyKeys(t *testing.T) {
	p := modified(t, "NN")
	var one, all api.Key
	one[0] = 1
	for i := range all {
		all[i] = 255
	}
	for _, key := range []api.Key{{}, one, all} {
		u := setups(p, 23)
		o := sideOf(t, suite.Plain(), suite.Fast(nil), p, u[second])
		o.mustRead(key[:], nil)
		if met, is := o.h.Met(); met != key || !is {
			t.Errorf("Met: %x, %v", met, is)
		}
		o.mustWrite([]byte("hail"))
	}
}
