package session_test

import (
	"bytes"
	"slices"
	"testing"

	"pintle/api"
	"pintle/session"
	"pintle/suite"
	"pintle/trace"
)

// harried asks a side for things that are refused there and change nothing; what failed to be opened behind the handshake is logged, all else is not.
func harried(o *one, d *draw) {
	o.t.Helper()
	long := make([]byte, limit+1+d.below(9))
	own := !o.m.over && o.m.h.Turn() == index(!o.m.initiator)
	for range 4 {
		switch what := d.below(9); {
		case what == 0:
			o.mustRefuseWay(api.ErrArg, neither()[d.below(len(neither()))])
		case what == 1 && !o.m.over:
			o.mustRefuseWay(api.ErrOver, out, in)
		case what == 2:
			o.mustFail(o.write(long))
		case what == 3:
			o.mustFail(o.read(long))
		case what == 4 && own:
			o.mustFail(o.read(d.bytes(d.below(120))))
		case what == 5 && !own && !o.m.over:
			o.mustFail(o.write(d.bytes(d.below(120))))
		case what == 6 && o.m.over:
			o.mustFail(o.read(d.bytes(d.below(16))))
		case what == 7 && o.m.over && o.m.oneWay && o.m.initiator:
			o.mustRefuseWay(api.ErrTurn, in)
		case what == 8 && o.m.over && o.m.oneWay && !o.m.initiator:
			o.mustRefuseWay(api.ErrTurn, out)
		}
	}
}

func index(is bool) int {
	if is {
		return 1
	}
	return 0
}

// mustFail asks for an error, whichever it is: the model has said which.
func (o *one) mustFail(_ []byte, err error) {
	o.t.Helper()
	if err == nil {
		o.t.Fatalf("%s: it is not refused", o.full)
	}
}

// calmOf is the same side without a model, to which nothing is said that is refused.
func calmOf(t *testing.T, u api.Setup) (*session.Session, *trace.Recorder) {
	t.Helper()
	r := trace.New()
	s, err := session.New(suite.Fast(r), u)
	if err != nil {
		t.Fatal(err)
	}
	return s, r
}

// P19.7, P0.6: refused calls between the others: all that is asked behind them is answered, and logged, as if they had not been asked.
func TestRefusedBetween(t *testing.T) {
	inParts(t, append(tabled(), modified()...), func(t *testing.T, i int, full string) {
		d := draw(60 + i)
		both := watched(t, full, 60)
		var calm [2]*session.Session
		var quiet [2]*trace.Recorder
		for side, u := range setups(full, 60) {
			calm[side], quiet[side] = calmOf(t, u)
		}
		for step := range messagesOf(t, full) + 6 {
			from := both[first].m.h.Turn()
			if both[first].m.over {
				from = senders(full)[step%len(senders(full))]
			}
			harried(both[first], &d)
			harried(both[second], &d)
			payload := d.bytes(d.below(50))
			message := both[from].mustWrite(payload)
			same, err := calm[from].Write(payload)
			if err != nil || !bytes.Equal(message, same) {
				t.Fatalf("%s: %v, %x, not %x", full, err, message, same)
			}
			harried(both[first], &d)
			harried(both[second], &d)
			both[1-from].mustRead(message, payload)
			if got, err := calm[1-from].Read(message); err != nil || !bytes.Equal(got, payload) {
				t.Fatalf("%s: %v", full, err)
			}
			for side, o := range both {
				if o.s.Sight() != calm[side].Sight() || !trace.Same(o.got, quiet[side]) {
					t.Fatalf("%s, side %d: not as if it had not been asked", full, side)
				}
			}
		}
	})
}

// P19.7, P0.7: messages that fail behind the handshake, of each kind, change nothing: number, key and Sight are as they were.
func TestFailedBehind(t *testing.T) {
	both, calm := over(sides(t, "IK", 61)), over(sides(t, "IK", 61))
	for n := range 5 {
		for _, from := range []int{first, second} {
			o := both[1-from]
			message := both[from].mustWrite([]byte("hail"))
			for range n + 1 {
				o.mustRefuseRead(api.ErrAuth, 16, 20, 400)
				o.mustRefuseRead(api.ErrShort, 0, 15)
				o.mustRefuseRead(api.ErrLong, limit+1)
			}
			o.mustRead(message, []byte("hail"))
			say(calm, from, []byte("hail"))
			if o.s.Sight() != calm[1-from].s.Sight() {
				t.Fatalf("%+v, not %+v", o.s.Sight(), calm[1-from].s.Sight())
			}
		}
	}
}

// P19.7: a draw that is not there, a number that is at its end: refused again and again, and what is asked behind is answered.
func TestRefusedForDrawAndNumber(t *testing.T) {
	u := setups("XX", 62)
	u[second].Draws = nil
	both := [2]*one{watchedOf(t, u[first]), watchedOf(t, u[second])}
	pass(both, nil)
	was := both[second].s.Sight()
	for range 3 {
		both[second].mustRefuseWrite(api.ErrDraw, 0, 50, limit+1)
	}
	if both[second].s.Sight() != was {
		t.Errorf("%+v, not %+v", both[second].s.Sight(), was)
	}
	pair := over(watched(t, "XX", 62))
	for _, o := range pair {
		o.must("SetNonce", o.setNonce(out, last), nil)
		o.must("SetNonce", o.setNonce(in, last), nil)
		total := o.got.Total()
		o.mustRefuseWrite(api.ErrNonce, 0, limit-16)
		o.mustRefuseRead(api.ErrNonce, 16, limit)
		if o.got.Total() != total {
			t.Errorf("what is refused for its number is logged")
		}
		o.must("SetNonce", o.setNonce(out, 4), nil)
		o.must("SetNonce", o.setNonce(in, 4), nil)
	}
	say(pair, first, nil)
	say(pair, second, nil)
}

// P0.7: the errors that end a session are these three, of a Read of the handshake, and no other ones.
func TestOnlyTheseEndIt(t *testing.T) {
	d := draw(63)
	ends := []error{api.ErrShort, api.ErrStatic, api.ErrAuth}
	seen := map[error]int{}
	names := append(tabled(), modified()...)
	for range 400 {
		full := names[d.below(len(names))]
		both := sides(t, full, 64)
		for range d.below(messagesOf(t, full) + 1) {
			pass(both, nil)
		}
		o := both[d.below(2)]
		wasOver := o.m.over
		_, err := o.read(d.bytes(d.below(150)))
		seen[err]++
		if o.s.Sight().Dead != (!wasOver && slices.Contains(ends, err)) {
			t.Fatalf("%s: %v, %+v", full, err, o.s.Sight())
		}
	}
	for _, err := range append(ends, api.ErrTurn) {
		if seen[err] == 0 {
			t.Errorf("%v was not seen", err)
		}
	}
}
