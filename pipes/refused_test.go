package pipes_test

import (
	"bytes"
	"errors"
	"slices"
	"testing"

	"pintle/api"
	"pintle/pipes"
	"pintle/suite"
	"pintle/trace"
)

// harried asks a side for things that are refused there and change nothing, and are not logged.
func harried(o *one, d *draw) {
	o.t.Helper()
	own := !o.m.over && o.m.road != none && o.m.h.Turn() == o.m.side()
	for range 5 {
		switch what := d.below(6); {
		case what == 0 && !o.m.over && !own:
			o.mustFail(o.write(d.bytes(d.below(120))))
		case what == 1 && own:
			o.mustFail(o.read(d.bytes(d.below(120))))
		case what == 2:
			o.mustFail(o.read(make([]byte, limit+1+d.below(9))))
		case what == 3 && !o.m.over:
			wrong := d.bytes(1 + d.below(120))
			if !bytes.Contains(o.m.awaited(), wrong[:1]) {
				o.mustFail(o.read(wrong))
			}
		case what == 4 && o.m.over:
			o.mustFail(o.read(d.bytes(d.below(16))))
		default:
			o.mustFail(o.write(make([]byte, limit-d.below(16))))
		}
	}
}

// mustFail asks for an error, whichever it is: the model has said which.
func (o *one) mustFail(_ []byte, err error) {
	o.t.Helper()
	if err == nil {
		o.t.Fatal("it is not refused")
	}
}

// calmOf is the same side without a model, to which nothing is said that is refused.
func calmOf(t *testing.T, u api.PipeSetup) (*pipes.Pipe, *trace.Recorder) {
	t.Helper()
	r := trace.New()
	p, err := pipes.New(suite.Fast(r), u)
	if err != nil {
		t.Fatal(err)
	}
	return p, r
}

// P21.6: refused calls between the others: all that is asked behind them is answered, and logged, as if they had not been asked.
func TestRefusedBetween(t *testing.T) {
	for _, road := range allRoads() {
		d := draw(90 + road)
		both := watched(t, road, 90)
		var calm [2]*pipes.Pipe
		var quiet [2]*trace.Recorder
		for side, u := range setups(road, 90) {
			calm[side], quiet[side] = calmOf(t, u)
		}
		for step := range len(kindsOf[road]) + 6 {
			from := step % 2
			harried(both[first], &d)
			harried(both[second], &d)
			payload := d.bytes(d.below(50))
			message := both[from].mustWrite(payload)
			if same, err := calm[from].Write(payload); err != nil || !bytes.Equal(message, same) {
				t.Fatalf("road %d: %v, %x, not %x", road, err, message, same)
			}
			harried(both[first], &d)
			harried(both[second], &d)
			got, err := both[1-from].read(message)
			same, err2 := calm[1-from].Read(message)
			if err != nil || err2 != nil || !bytes.Equal(got, same) {
				t.Fatalf("road %d: %v, %v", road, err, err2)
			}
			for side, o := range both {
				if o.p.Sight() != calm[side].Sight() || !trace.Same(o.got, quiet[side]) {
					t.Fatalf("road %d, side %d: not as if it had not been asked", road, side)
				}
			}
		}
	}
}

// P21.6, P0.7: messages that fail once it is over, of each kind of error, change nothing: number, keys and Sight are as they were.
func TestFailedOver(t *testing.T) {
	for _, road := range allRoads() {
		both, calm := over(sides(t, road, 91)), over(sides(t, road, 91))
		for n := range 4 {
			for from := range both {
				o := both[1-from]
				message := both[from].mustWrite([]byte("hail"))
				for range n + 1 {
					o.mustRefuseRead(api.ErrAuth, turned(message, n))
					o.mustRefuseRead(api.ErrAuth, make([]byte, 400))
					o.mustRefuseRead(api.ErrShort, message[:15])
					o.mustRefuseRead(api.ErrLong, make([]byte, limit+1))
				}
				o.mustRead(message, []byte("hail"))
				say(calm, from, []byte("hail"))
				if o.p.Sight() != calm[1-from].p.Sight() {
					t.Fatalf("%+v, not %+v", o.p.Sight(), calm[1-from].p.Sight())
				}
			}
		}
	}
}

// P21.6: ErrDraw, refused again and again, uses nothing up, and what the other side sends is still read.
func TestRefusedForDraw(t *testing.T) {
	u := setups(full, 92)
	u[first].Draws = nil
	o := watchedOf(t, u[first])
	was := o.got.Total()
	for range 3 {
		o.mustRefuseWrite(api.ErrDraw, 0, 50, limit-33)
		o.mustRefuseWrite(api.ErrLong, limit-32)
		o.mustRefuseRead(api.ErrTurn, messageOf(2, 97))
	}
	if o.got.Total() != was {
		t.Errorf("what is refused for its draws is logged")
	}
}

// P21.6: ErrNonce logs nothing and changes nothing: with another number all goes on.
func TestRefusedForNumber(t *testing.T) {
	for _, road := range allRoads() {
		both := over(watched(t, road, 93))
		for _, o := range both {
			o.setNumbers(last, last)
			was := o.got.Total()
			o.mustRefuseWrite(api.ErrNonce, 0, limit-16)
			o.mustRefuseRead(api.ErrNonce, make([]byte, 16))
			o.mustRefuseRead(api.ErrNonce, make([]byte, limit))
			if o.got.Total() != was {
				t.Errorf("what is refused for its number is logged")
			}
			o.setNumbers(4, 4)
		}
		say(both, first, nil)
		say(both, second, nil)
	}
}

// P21.6, P21.3: the errors that end a Pipe are ErrShort, ErrStatic and ErrAuth, of a Read of the handshake, and no other ones.
func TestOnlyTheseEndIt(t *testing.T) {
	t.Parallel()
	ends := []error{api.ErrShort, api.ErrStatic, api.ErrAuth}
	seen := map[error]int{}
	d := draw(94)
	for range 300 {
		road := full + d.below(3)
		o := placed(t, road, d.below(len(kindsOf[road])+1), 94)[d.below(2)]
		message := d.bytes(d.below(150))
		if awaited := o.m.awaited(); len(message) > 0 && len(awaited) > 0 && d.below(3) > 0 {
			message[0] = awaited[d.below(len(awaited))]
		}
		wasOver := o.m.over
		_, err := o.read(message)
		seen[err]++
		if o.p.Sight().Sight.Dead != (!wasOver && slices.Contains(ends, err)) {
			t.Fatalf("road %d: %v, %+v", road, err, o.p.Sight())
		}
	}
	for _, err := range append(ends, nil, api.ErrTurn, api.ErrKind) {
		if seen[err] == 0 {
			t.Errorf("%v was not seen", err)
		}
	}
}

// faultOf is what Caught gives up with itself, if it does not take what was given for an error of a Pipe.
func faultOf(given any) (err error, fault any) {
	defer func() { fault = recover() }()
	return pipes.Caught(given), nil
}

// The document, Errors: the errors that a call is given up with are those of the chapter's list, and ErrArg; any other one, and what is no error, is a fault of the program's own, and does not pass for an answer.
func TestCaught(t *testing.T) {
	for _, err := range []error{api.ErrDead, api.ErrTurn, api.ErrLong, api.ErrShort, api.ErrKind, api.ErrNonce, api.ErrStatic, api.ErrAuth, api.ErrDraw, api.ErrArg} {
		if got, fault := faultOf(err); got != err || fault != nil {
			t.Errorf("%v: %v, %v", err, got, fault)
		}
	}
	for _, given := range []any{api.ErrRoom, api.ErrOver, api.ErrKey, api.ErrName, api.ErrInvalid, errors.New(api.ErrDead.Error()), "pintle: dead", 7} {
		if got, fault := faultOf(given); got != nil || fault != given {
			t.Errorf("%v: %v, %v", given, got, fault)
		}
	}
}
