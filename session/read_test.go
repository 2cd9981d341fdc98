package session_test

import (
	"bytes"
	"testing"

	"pintle/api"
	"pintle/suite"
)

// P19.3: ahead of the handshake's end the errors are those of its Read in their order; with ErrTurn and ErrLong nothing has changed.
func TestReadUnderWay(t *testing.T) {
	both := sides(t, "XX", 30)
	for range 3 {
		from := both[first].m.h.Turn()
		both[from].mustRefuseRead(api.ErrTurn, 0, 31, 200, limit, limit+1)
		both[1-from].mustRefuseRead(api.ErrLong, limit+1, limit+2, 1<<20)
		both[from].mustRefuseRead(api.ErrTurn, limit+1)
		pass(both, []byte("hail"))
	}
	say(both, first, []byte("hail"))
	say(both, second, []byte("ho"))
}

// P19.3, P0.7: each message of the handshake that is too short ends the session, at every place and length.
func TestReadShortUnderWay(t *testing.T) {
	inParts(t, append(tabled(), modified()...), func(t *testing.T, i int, full string) {
		for place := range messagesOf(t, full) {
			both := sides(t, full, 31)
			for range place {
				pass(both, nil)
			}
			from := both[first].m.h.Turn()
			message := both[from].mustWrite(nil)
			o := both[1-from]
			_, err := o.read(message[:len(message)-1-i%len(message)])
			o.must("Read of a piece", err, api.ErrShort)
			o.mustBeDead()
		}
	})
}

// P19.3, P0.7: a message of the handshake in which a byte is another one ends the session with ErrStatic or ErrAuth, or is read; behind an error it is dead for ever.
func TestReadWrongUnderWay(t *testing.T) {
	inParts(t, append(tabled(), modified()...), func(t *testing.T, i int, full string) {
		seen := map[error]int{}
		for place := range messagesOf(t, full) {
			for _, at := range []int{0, 33, -17, -1} {
				both := sides(t, full, 32)
				for range place {
					pass(both, nil)
				}
				from := both[first].m.h.Turn()
				message := both[from].mustWrite([]byte("hail"))
				message[(at+len(message))%len(message)] ^= 128 >> (i % 8)
				o := both[1-from]
				_, err := o.read(message)
				seen[err]++
				if err != nil {
					o.mustBeDead()
				}
			}
		}
		if seen[api.ErrAuth] == 0 {
			t.Errorf("%s: no ErrAuth, %v", full, seen)
		}
	})
}

// mustBeDead asks for ErrDead of every call, for ever, also of the right message and of calls that are wrong for more than that.
func (o *one) mustBeDead() {
	o.t.Helper()
	for range 2 {
		if !o.s.Sight().Dead || o.s.Sight().Over {
			o.t.Fatalf("%s: %+v", o.full, o.s.Sight())
		}
		o.mustRefuseWrite(api.ErrDead, 0, 9, limit+1)
		o.mustRefuseRead(api.ErrDead, 0, 31, 96, limit+1)
		o.mustRefuseWay(api.ErrDead, out, in, 0, 3, -1)
	}
}

// P19.3: that a Session is dead does not hang on the errors of a transport: there the same three change nothing.
func TestReadDeadByKind(t *testing.T) {
	for err, o := range killed(t) {
		t.Log(err)
		o.mustBeDead()
	}
}

// P19.3: the right message behind one that failed comes too late.
func TestReadRightBehindWrong(t *testing.T) {
	both := sides(t, "NN", 33)
	pass(both, nil)
	message := both[second].mustWrite([]byte("hail"))
	wrong := bytes.Clone(message)
	wrong[47] ^= 4
	_, err := both[first].read(wrong)
	both[first].must("Read of a wrong message", err, api.ErrAuth)
	_, err = both[first].read(message)
	both[first].must("Read of the right one", err, api.ErrDead)
}

// P19.3: behind a one-way pattern the initiator has no way in: ErrTurn, of a message of any length.
func TestReadNoWay(t *testing.T) {
	for _, full := range []string{"N", "K", "X", "Npsk0", "Kpsk1", "Xpsk0+psk1"} {
		both := over(sides(t, full, 34))
		message := both[first].mustWrite([]byte("hail"))
		_, err := both[first].read(message)
		both[first].must("Read of the own message", err, api.ErrTurn)
		both[first].must("SetNonce", both[first].setNonce(out, last), nil)
		both[first].mustRefuseRead(api.ErrTurn, 0, 15, 16, limit, limit+1)
		both[second].mustRead(message, []byte("hail"))
	}
}

// P19.3: behind the handshake in the order ErrLong, ErrShort, ErrNonce, ErrAuth; none of them changes anything, and all goes on.
func TestReadTransport(t *testing.T) {
	for _, full := range []string{"NN", "N", "XXfallback"} {
		both := over(watched(t, full, 35))
		o := both[second]
		for _, n := range []uint64{0, 5, last - 1, last} {
			o.must("SetNonce", o.setNonce(in, n), nil)
			o.mustRefuseRead(api.ErrLong, limit+1, limit+2, 1<<20)
			o.mustRefuseRead(api.ErrShort, 0, 1, 14, 15)
			want := api.ErrAuth
			if n == last {
				want = api.ErrNonce
			}
			o.mustRefuseRead(want, 16, 17, 100, limit)
			o.mustNumbers(0, n)
		}
		o.must("SetNonce", o.setNonce(in, 0), nil)
		for range 3 {
			say(both, first, []byte("hail"))
		}
	}
}

// P19.3, P0.7: each bit of a message that is another one makes ErrAuth, and the right message is read behind it.
func TestReadWrongBits(t *testing.T) {
	both := over(sides(t, "NN", 36))
	message := both[first].mustWrite([]byte("hail"))
	o := both[second]
	for i := range 8 * len(message) {
		wrong := bytes.Clone(message)
		wrong[i/8] ^= 1 << (i % 8)
		_, err := o.read(wrong)
		o.must("Read of another bit", err, api.ErrAuth)
	}
	for _, wrong := range [][]byte{message[1:], message[:len(message)-1], append(bytes.Clone(message), 0)} {
		_, err := o.read(wrong)
		o.must("Read of another length", err, api.ErrAuth)
	}
	_, err := both[first].read(message)
	both[first].must("Read of the own message", err, api.ErrAuth)
	o.mustRead(message, []byte("hail"))
	_, err = o.read(message)
	o.must("Read of it a second time", err, api.ErrAuth)
	say(both, first, []byte("ho"))
	say(both, second, []byte("ho"))
}

// P19.3: messages of 16 bytes and of MaxMessage bytes are read.
func TestReadLengths(t *testing.T) {
	d := draw(37)
	for _, engine := range engines() {
		u := setups("NN", 37)
		both := over([2]*one{sideOf(t, suite.Fast(nil), u[first]), sideOf(t, engine, u[second])})
		for _, n := range []int{16, 17, 31, 32, 80, limit - 1, limit} {
			payload := d.bytes(n - 16)
			message := both[first].mustWrite(payload)
			if len(message) != n {
				t.Fatalf("%d bytes, not %d", len(message), n)
			}
			both[second].mustRead(message, payload)
		}
	}
}

// P19.3: the number goes on by one with each message that is read, up to LastNonce, at which nothing is read; a number that is said then holds again.
func TestReadNumbers(t *testing.T) {
	both := over(sides(t, "NN", 38))
	i, o := both[first], both[second]
	for n := range uint64(4) {
		o.mustNumbers(0, n)
		say(both, first, nil)
	}
	i.must("SetNonce", i.setNonce(out, last-1), nil)
	o.must("SetNonce", o.setNonce(in, last-1), nil)
	message := i.mustWrite([]byte("hail"))
	o.mustRead(message, []byte("hail"))
	for range 3 {
		o.mustNumbers(0, last)
		_, err := o.read(message)
		o.must("Read at the last number", err, api.ErrNonce)
		o.mustRefuseRead(api.ErrNonce, 16, limit)
	}
	o.must("SetNonce", o.setNonce(in, last-1), nil)
	o.mustRead(message, []byte("hail"))
	o.mustNumbers(0, last)
	say(both, second, []byte("ho"))
}
