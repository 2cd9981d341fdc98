package session_test

import (
	"bytes"
	"fmt"
	"slices"
	"testing"

	"pintle/api"
	"pintle/session"
	"pintle/suite"
	"pintle/trace"
)

// script is what both sides on one engine answer to drawn calls, right ones and wrong ones, written down.
func script(t *testing.T, full string, engine suite.Suite, seed draw) string {
	t.Helper()
	var b bytes.Buffer
	var both [2]*session.Session
	for side, u := range setups(full, seed) {
		both[side], _ = session.New(engine, u)
	}
	d := seed
	message := []byte{}
	for range 30 {
		side := d.below(2)
		if turn := both[first].Sight().Turn; d.below(3) > 0 {
			side = turn
		}
		s := both[side]
		switch d.below(9) {
		case 0, 1, 2, 3:
			m, err := s.Write(d.bytes(d.below(40)))
			fmt.Fprintf(&b, "%x %v\n", m, err)
			if err == nil {
				message = m
				payload, err := both[1-side].Read(m)
				fmt.Fprintf(&b, "%x %v\n", payload, err)
			}
		case 4:
			payload, err := s.Read(message)
			fmt.Fprintf(&b, "%x %v\n", payload, err)
		case 5:
			if s.Sight().Over || d.below(9) == 0 {
				payload, err := s.Read(d.bytes(d.below(60)))
				fmt.Fprintf(&b, "%x %v\n", payload, err)
			}
		case 6:
			fmt.Fprintln(&b, s.Rekey(d.below(4)))
		case 7:
			fmt.Fprintln(&b, s.SetNonce(d.below(4), uint64(d.below(3))-1))
		default:
			_, err := s.Write(make([]byte, limit-16+d.below(3)))
			fmt.Fprintln(&b, err)
		}
		fmt.Fprintf(&b, "%+v\n%+v\n", both[first].Sight(), both[second].Sight())
	}
	return b.String()
}

// W2, P0.2: both engines, with a Recorder and without one, answer alike, call by call, those too that are refused or fail.
func TestEnginesAlike(t *testing.T) {
	inParts(t, []string{"NN", "XX", "IKpsk0+psk2", "X", "N", "XXfallback", "NNfallback", "KKpsk1"}, func(t *testing.T, i int, full string) {
		for seed := range draw(5) {
			var want string
			for n, engine := range engines() {
				got := script(t, full, engine, 90+seed)
				if n == 0 {
					want = got
				}
				if got != want {
					t.Fatalf("%s, engine %d:\n%s\nnot\n%s", full, n, got, want)
				}
			}
		}
	})
}

// P0.4: two Setups that are alike in all that is public have one trace, whatever the keys and payloads are.
func TestBlind(t *testing.T) {
	for _, full := range []string{"NN", "XX", "KKpsk0+psk2", "X", "IXfallback"} {
		var traces [2][2]*trace.Recorder
		for i := range traces {
			both := over(watched(t, full, draw(100+i)))
			for n, from := range append(senders(full), first, first) {
				both[from].must("Rekey", both[from].rekey(out), nil)
				both[1-from].must("Rekey", both[1-from].rekey(in), nil)
				say(both, from, bytes.Repeat([]byte{byte(i * 99)}, 70*n))
			}
			traces[i] = [2]*trace.Recorder{both[first].got, both[second].got}
		}
		for side := range 2 {
			if !trace.Same(traces[0][side], traces[1][side]) || traces[0][side].Total() == 0 {
				t.Errorf("%s, side %d: the traces hang on what is secret", full, side)
			}
		}
	}
}

// P0.5: Split is asked for at once behind the last message of the handshake, once, and nothing more; a Sight logs nothing.
func TestSplitAtOnce(t *testing.T) {
	split := trace.New() // what one Split logs
	m, err := newModel(suite.Fast(split), setups("Xpsk1", 101)[first])
	if err != nil {
		t.Fatal(err)
	}
	if _, err := m.h.Write(nil); err != nil {
		t.Fatal(err)
	}
	ahead := split.Total()
	m.h.Split()
	cost := split.Total() - ahead
	o := watchedOf(t, setups("Xpsk1", 101)[first])
	o.mustWrite(nil)
	if cost == 0 || o.got.Total() != ahead+cost || !trace.Same(o.got, split) {
		t.Errorf("%d events, not %d and %d", o.got.Total(), ahead, cost)
	}
	for range 3 {
		o.s.Sight()
	}
	if o.got.Total() != ahead+cost {
		t.Errorf("a Sight is logged")
	}
}

// named are the errors that may come of a Read, under way and behind the handshake.
func named(over bool) []error {
	if over {
		return []error{nil, api.ErrTurn, api.ErrLong, api.ErrShort, api.ErrNonce, api.ErrAuth}
	}
	return []error{nil, api.ErrTurn, api.ErrLong, api.ErrShort, api.ErrStatic, api.ErrAuth}
}

// P0.10: any bytes as messages, at any place, are answered with one of the errors that the document says, or read with a payload of the right length.
func TestAnyBytes(t *testing.T) {
	inParts(t, append(tabled(), modified()...), func(t *testing.T, i int, full string) {
		d := draw(102 + i)
		for place := range messagesOf(t, full) + 1 {
			for range 6 {
				both := sides(t, full, 102)
				for range place {
					pass(both, nil)
				}
				for _, o := range both {
					message := d.bytes([]int{d.below(20), d.below(200), limit - d.below(2), limit + 1}[d.below(4)])
					if d.below(4) == 0 {
						clear(message)
					}
					wasOver := o.m.over
					least, _ := o.m.h.Size(0)
					payload, err := o.read(message)
					if !slices.Contains(named(wasOver), err) || err == nil && len(payload) != len(message)-least {
						t.Fatalf("%s, place %d: %d bytes of %d, %v", full, place, len(payload), len(message), err)
					}
				}
			}
		}
	})
}

// P0.10: pieces of right messages, laid together anyhow, are read or refused too.
func TestAnyPieces(t *testing.T) {
	d := draw(103)
	for _, full := range []string{"NN", "XX", "IK", "Npsk0", "XXfallback"} {
		for range 40 {
			both := sides(t, full, 103)
			pool := []byte{}
			for range d.below(messagesOf(t, full) + 3) {
				from := both[first].m.h.Turn()
				message := both[from].mustWrite(d.bytes(d.below(30)))
				pool = append(pool, message...)
				if d.below(5) == 0 {
					both[1-from].read(message[d.below(len(message)):])
					break
				}
				if _, err := both[1-from].read(message); err != nil {
					break
				}
			}
			for _, o := range both {
				at := d.below(len(pool) + 1)
				wasOver, wasDead := o.m.over, o.m.dead
				_, err := o.read(pool[at : at+d.below(len(pool)-at+1)])
				if !wasDead && !slices.Contains(named(wasOver), err) || wasDead && err != api.ErrDead {
					t.Fatalf("%s: %v", full, err)
				}
			}
		}
	}
}
