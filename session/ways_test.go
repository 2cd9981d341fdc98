package session_test

import (
	"bytes"
	"math"
	"slices"
	"testing"

	"pintle/api"
	"pintle/suite"
)

// neither are numbers of no way.
func neither() []int {
	return []int{0, 3, -1, -2, 4, 257, 258, 1 << 32, 1<<32 + 1, math.MaxInt, math.MinInt, math.MinInt + 1}
}

// P19.4, P19.5: of a dead Session ErrDead, of ways that are neither as well.
func TestWaysDead(t *testing.T) {
	for _, o := range killed(t) {
		o.mustRefuseWay(api.ErrDead, append(neither(), out, in)...)
	}
}

// P19.4, P19.5: ahead of the handshake's end, at every place, ErrOver of both ways, and ErrArg of what is neither; of a one-way pattern too.
func TestWaysEarly(t *testing.T) {
	inParts(t, append(tabled(), modified()...), func(t *testing.T, i int, full string) {
		both := sides(t, full, 40)
		for range messagesOf(t, full) {
			for _, o := range both {
				o.mustRefuseWay(api.ErrArg, neither()...)
				o.mustRefuseWay(api.ErrOver, out, in)
			}
			pass(both, nil)
		}
		for _, o := range both {
			o.mustRefuseWay(api.ErrArg, neither()...)
		}
	})
}

// P19.4, P19.5: the way that a one-way pattern does not have is ErrTurn; the other one can be had.
func TestWaysOneWay(t *testing.T) {
	for _, full := range []string{"N", "K", "X", "Npsk0", "Kpsk1", "Xpsk0+psk1"} {
		both := over(watched(t, full, 41))
		for range 2 {
			both[first].mustRefuseWay(api.ErrTurn, in)
			both[first].mustRefuseWay(api.ErrArg, neither()...)
			both[second].mustRefuseWay(api.ErrTurn, out)
			both[second].mustRefuseWay(api.ErrArg, neither()...)
			both[first].must("Rekey", both[first].rekey(out), nil)
			both[second].must("Rekey", both[second].rekey(in), nil)
			both[first].must("SetNonce", both[first].setNonce(out, 77), nil)
			both[second].must("SetNonce", both[second].setNonce(in, 77), nil)
			say(both, first, []byte("hail"))
			both[first].mustNumbers(78, 0)
			both[second].mustNumbers(0, 78)
		}
	}
}

// P19.4: Rekey makes another key of that way alone, and leaves both numbers.
func TestRekey(t *testing.T) {
	for _, way := range []int{out, in} {
		both := over(watched(t, "NN", 42))
		for range 3 {
			say(both, first, nil)
			say(both, second, nil)
		}
		o, other := both[first], both[second]
		for n := range uint64(3) {
			o.must("Rekey", o.rekey(way), nil)
			o.mustNumbers(3+n, 3+n)
			from, to := o, other
			if way == in {
				from, to = other, o
			}
			_, err := to.read(from.mustWrite([]byte("hail")))
			to.must("Read under the key that was", err, api.ErrAuth)
			from.must("SetNonce", from.setNonce(out, 3+n), nil)
			say(both, [...]int{out: second, in: first}[way], []byte("the other way"))
			other.must("Rekey", other.rekey(3-way), nil)
			to.mustRead(from.mustWrite([]byte("hail")), []byte("hail"))
		}
	}
}

// P19.4: a Rekey at LastNonce is none of a message: it is done, and the number stays.
func TestRekeyAtTheLastNumber(t *testing.T) {
	both := over(sides(t, "XX", 43))
	o := both[first]
	for _, way := range []int{out, in} {
		o.must("SetNonce", o.setNonce(way, last), nil)
		o.must("Rekey", o.rekey(way), nil)
	}
	o.mustNumbers(last, last)
	both[second].must("Rekey", both[second].rekey(in), nil)
	both[second].must("Rekey", both[second].rekey(out), nil)
	o.must("SetNonce", o.setNonce(out, 0), nil)
	o.must("SetNonce", o.setNonce(in, 0), nil)
	say(both, first, []byte("hail"))
	say(both, second, []byte("ho"))
}

// P19.5: SetNonce says the number of that way alone, whatever it was, any number.
func TestSetNonce(t *testing.T) {
	for _, engine := range engines() {
		u := setups("NN", 44)
		both := over([2]*one{sideOf(t, engine, u[first]), sideOf(t, suite.Fast(nil), u[second])})
		o := both[first]
		was := [3]uint64{}
		for i, n := range []uint64{1, 0, 255, 256, 1 << 32, 1<<32 - 1, 1 << 63, last, last - 1, 0, last, 5} {
			way := out + i/2%2
			o.must("SetNonce", o.setNonce(way, n), nil)
			was[way] = n
			o.mustNumbers(was[out], was[in])
		}
		for _, n := range []uint64{9, 1 << 32, 1<<40 + 7, 1 << 63, last - 1} {
			o.must("SetNonce", o.setNonce(out, n), nil)
			both[second].must("SetNonce", both[second].setNonce(in, n), nil)
			say(both, first, []byte("hail"))
		}
	}
}

// P19.5: messages that come in another order, or not at all, are read with their number said ahead of each.
func TestAnotherOrder(t *testing.T) {
	for _, full := range []string{"NN", "X", "IKpsk2", "XXfallback"} {
		for _, from := range senders(full) {
			both := over(watched(t, full, 45))
			d := draw(45)
			var messages, payloads [][]byte
			for n := range 9 {
				payloads = append(payloads, d.bytes(n*5))
				messages = append(messages, both[from].mustWrite(payloads[n]))
			}
			o := both[1-from]
			for _, n := range []int{3, 1, 8, 0, 3, 6, 5, 5} { // 2, 4 and 7 are lost, 3 and 5 come twice
				o.must("SetNonce", o.setNonce(in, uint64(n)), nil)
				o.mustRead(messages[n], payloads[n])
				o.mustNumbers(0, uint64(n)+1)
				_, err := o.read(messages[(n+4)%9])
				o.must("Read of another number", err, api.ErrAuth)
			}
			o.must("SetNonce", o.setNonce(in, 9), nil)
			say(both, from, []byte("hail"))
		}
	}
}

// P19.5: a message that is written under a number a second time is the same one.
func TestSameNumber(t *testing.T) {
	o := over(sides(t, "NN", 46))[first]
	var all [][]byte
	for _, n := range []uint64{0, 1, 2, 0, 1, 2} {
		o.must("SetNonce", o.setNonce(out, n), nil)
		all = append(all, o.mustWrite([]byte("hail")))
	}
	if !slices.EqualFunc(all[:3], all[3:], bytes.Equal) || bytes.Equal(all[0], all[1]) || bytes.Equal(all[1], all[2]) {
		t.Errorf("%x", all)
	}
}
