package session_test

import (
	"bytes"
	"testing"

	"pintle/api"
	"pintle/suite"
)

// killed are Sessions that are dead, one by each error that ends a session, with what is wrong besides: no draw, the other's turn, or the own one.
func killed(t *testing.T) map[error]*one {
	t.Helper()
	all := map[error]*one{}
	short := sides(t, "NN", 10)[second]
	short.mustRefuseRead(api.ErrShort, 31)
	all[api.ErrShort] = short
	static := sides(t, "XX", 11)
	pass(static, nil)
	message := static[second].mustWrite([]byte("hail"))
	message[40] ^= 1
	_, err := static[first].read(message)
	static[first].must("Read of another static key", err, api.ErrStatic)
	all[api.ErrStatic] = static[first]
	auth := sides(t, "NN", 12)
	pass(auth, nil)
	message = auth[second].mustWrite(nil)
	message[len(message)-1] ^= 1
	_, err = auth[first].read(message)
	auth[first].must("Read of another tag", err, api.ErrAuth)
	all[api.ErrAuth] = auth[first]
	return all
}

// P19.2, P0.7: a dead Session says ErrDead for ever, whatever it is handed.
func TestWriteDead(t *testing.T) {
	for _, o := range killed(t) {
		for range 3 {
			o.mustRefuseWrite(api.ErrDead, 0, 1, limit-16, limit-15, limit+1)
			o.mustRefuseRead(api.ErrDead, 0, 48, limit+1)
		}
	}
}

// P19.2: ahead of the handshake's end the errors are those of its Write in their order, each with what comes behind it true as well; nothing is changed.
func TestWriteUnderWay(t *testing.T) {
	u := setups("NN", 13)
	u[second].Draws, u[first].Draws = nil, nil
	i, r := sideOf(t, suite.Fast(nil), u[first]), sideOf(t, suite.Plain(), u[second])
	r.mustRefuseWrite(api.ErrTurn, 0, limit+1)
	i.mustRefuseWrite(api.ErrDraw, 0, limit-32, limit+1)
	both := sides(t, "NN", 13)
	both[first].mustRefuseWrite(api.ErrLong, limit-31, limit, limit+1)
	r.mustRead(both[first].mustWrite(nil), nil)
	r.mustRefuseWrite(api.ErrDraw, 0, limit-48, limit-47, limit+1)
	both[first].mustRefuseWrite(api.ErrTurn, 0, limit+1)
}

// P19.2, P0.8: a message of the handshake may be as long as MaxMessage, and not longer, at every place of the 38 patterns.
func TestWriteLongestUnderWay(t *testing.T) {
	inParts(t, append(tabled(), modified()...), func(t *testing.T, i int, full string) {
		both := sides(t, full, 14)
		for range messagesOf(t, full) {
			from := both[first].m.h.Turn()
			least, err := both[from].m.h.Size(0)
			if err != nil {
				t.Fatal(err)
			}
			both[from].mustRefuseWrite(api.ErrLong, limit-least+1)
			payload := make([]byte, limit-least)
			message := both[from].mustWrite(payload)
			if len(message) != limit {
				t.Fatalf("%s: %d bytes", full, len(message))
			}
			both[1-from].mustRead(message, payload)
		}
	})
}

// P19.2: behind a one-way pattern the responder has no way out: ErrTurn, of a payload that is too long as well.
func TestWriteNoWay(t *testing.T) {
	for _, full := range []string{"N", "K", "X", "Npsk0", "Kpsk1", "Xpsk0+psk1"} {
		both := over(sides(t, full, 15))
		both[second].mustRefuseWrite(api.ErrTurn, 0, 1, limit-16, limit-15, limit+1)
		say(both, first, []byte("hail"))
		both[second].must("SetNonce", both[second].setNonce(in, last), nil)
		both[second].mustRefuseWrite(api.ErrTurn, 0, limit+1)
	}
}

// P19.2: a pattern of one message that the responder sends is no one-way pattern: both sides send behind it.
func TestWriteBehindFallback(t *testing.T) {
	for _, full := range []string{"NNfallback", "INfallback", "IXfallback+psk0+psk1", "KXfallback"} {
		both := sides(t, full, 16)
		if messagesOf(t, full) != 1 {
			t.Fatalf("%s has not one message", full)
		}
		over(both)
		for range 3 {
			say(both, first, []byte("hail"))
			say(both, second, []byte("ho"))
		}
	}
}

// P19.2: behind the handshake ErrLong comes ahead of ErrNonce, and takes no number.
func TestWriteLong(t *testing.T) {
	for _, full := range []string{"NN", "N", "XXfallback"} {
		both := over(sides(t, full, 17))
		for _, n := range []uint64{0, 5, last - 1, last} {
			both[first].must("SetNonce", both[first].setNonce(out, n), nil)
			both[first].mustRefuseWrite(api.ErrLong, limit-15, limit-14, limit, limit+1, 1<<20)
		}
		both[first].mustRefuseWrite(api.ErrNonce, 0, 1, limit-16)
	}
}

// P19.2, P0.8: payloads of many lengths, none and the longest among them: each message has 16 bytes more, and the other side reads it.
func TestWriteLengths(t *testing.T) {
	d := draw(18)
	for _, full := range []string{"NN", "X"} {
		both := over(sides(t, full, 18))
		for _, n := range []int{0, 1, 15, 16, 17, 31, 32, 63, 64, 65, 255, 256, 257, 1000, limit - 17, limit - 16} {
			payload := d.bytes(n)
			message := both[first].mustWrite(payload)
			if len(message) != n+16 || n > 15 && bytes.Contains(message, payload) {
				t.Fatalf("%s: %d bytes of %d", full, len(message), n)
			}
			both[second].mustRead(message, payload)
		}
	}
}

// P19.2, W5: a nil payload and an empty one are the same.
func TestWriteNothing(t *testing.T) {
	both, same := sides(t, "NN", 19), sides(t, "NN", 19)
	for range 4 {
		from := both[first].m.h.Turn()
		message := both[from].mustWrite(nil)
		if other := same[from].mustWrite([]byte{}); !bytes.Equal(message, other) {
			t.Fatalf("%x, not %x", other, message)
		}
		both[1-from].mustRead(message, nil)
		same[1-from].mustRead(message, []byte{})
	}
}

// P19.2: the number goes on by one with each message, up to LastNonce, at which nothing is written for ever; a number that is said then holds again.
func TestWriteNumbers(t *testing.T) {
	both := over(sides(t, "NN", 20))
	o := both[first]
	for n := range uint64(5) {
		o.mustNumbers(n, 0)
		say(both, first, []byte("hail"))
	}
	o.must("SetNonce", o.setNonce(out, last-2), nil)
	both[second].must("SetNonce", both[second].setNonce(in, last-2), nil)
	say(both, first, []byte("hail"))
	o.mustNumbers(last-1, 0)
	say(both, first, nil)
	for range 3 {
		o.mustNumbers(last, 0)
		o.mustRefuseWrite(api.ErrNonce, 0, 1, limit-16)
	}
	both[second].mustNumbers(0, last)
	say(both, second, []byte("ho"))
	o.mustNumbers(last, 1)
	o.must("SetNonce", o.setNonce(out, 0), nil)
	o.mustWrite(nil)
	o.mustNumbers(1, 1)
}

// mustNumbers asks for the numbers of the two ways.
func (o *one) mustNumbers(ofOut, ofIn uint64) {
	o.t.Helper()
	if x := o.s.Sight(); x.Out != ofOut || x.In != ofIn {
		o.t.Fatalf("%s: the numbers %d and %d, not %d and %d", o.full, x.Out, x.In, ofOut, ofIn)
	}
}
