package handshake_test

import (
	"bytes"
	"slices"
	"testing"

	"pintle/aead"
	"pintle/api"
	"pintle/handshake"
	"pintle/kdf"
	"pintle/suite"
	"pintle/trace"
)

// watched is a side on the fast engine, with what it logs and what the formulas log.
type watched struct {
	*one
	got, want *trace.Recorder
}

func watch(t *testing.T, p api.Pattern, u api.Setup) watched {
	t.Helper()
	got, want := trace.New(), trace.New()
	w := watched{sideOf(t, suite.Fast(got), suite.Fast(want), p, u), got, want}
	w.check("New")
	return w
}

// check asks for the same events up to here.
func (w watched) check(what string) {
	w.t.Helper()
	mustLog(w.t, what+" of "+w.p.Name, w.got, w.want)
}

// silent asks that a call logs nothing.
func (w watched) silent(what string, call func()) {
	w.t.Helper()
	ahead := w.got.Total()
	call()
	if n := w.got.Total() - ahead; n != 0 {
		w.t.Fatalf("%s of %v: %d events", what, w.p, n)
	}
}

// P18.9: New, each Write, each Read and Split log the calls of the formulas, each once and in their order; Size and all that is asked, and what is refused, log nothing.
func TestCalls(t *testing.T) {
	all := append(tabled(), untabled()...)
	for _, words := range [][]string{{"psk0"}, {"psk1", "psk2"}, {"fallback"}, {"fallback", "psk0", "psk2"}} {
		all = append(all, modified(t, "XX", words...))
	}
	inParts(t, all, func(t *testing.T, i int, p api.Pattern) {
		u := setups(p, draw(40+i))
		both := [2]watched{watch(t, p, u[first]), watch(t, p, u[second])}
		long := make([]byte, limit+1)
		for range p.Lines {
			from, to := both[both[first].m.turn()], both[1-both[first].m.turn()]
			for _, w := range both {
				w.silent("what is asked", func() {
					w.size(0)
					w.size(-1)
					w.size(limit + 1)
					w.hold()
					w.split()
				})
			}
			from.silent("what is refused", func() { from.write(long); from.read(nil); from.read(long) })
			to.silent("what is refused", func() { to.write(nil); to.write(long); to.read(long) })
			message := from.mustWrite([]byte("hail"))
			from.check("Write")
			to.mustRead(message, []byte("hail"))
			to.check("Read")
		}
		for _, w := range both {
			w.silent("what is refused", func() { w.write(nil); w.read(nil); w.size(0) })
			for range 2 { // what the ciphers seal is logged too: they are left alone
				w.h.Split()
				w.m.split()
				w.check("Split")
			}
		}
	})
}

// P18.9: a Read that fails logs its calls up to what failed, that one too, and ErrShort none; behind it nothing is logged.
func TestCallsOfFailures(t *testing.T) {
	inParts(t, fragile(t), func(t *testing.T, i int, p api.Pattern) {
		u := setups(p, 41)
		for message := range p.Lines {
			for _, want := range []error{api.ErrShort, api.ErrStatic, api.ErrAuth} {
				both := [2]watched{watch(t, p, u[first]), watch(t, p, u[second])}
				for range message {
					from := both[first].m.turn()
					both[1-from].mustRead(both[from].mustWrite(nil), nil)
				}
				from := both[first].m.turn()
				right, w := both[from].mustWrite([]byte("hail")), both[1-from]
				wrong := failing(p, message, right, want)
				if wrong == nil {
					continue
				}
				ahead := w.got.Total()
				if _, err := w.read(wrong); err != want {
					t.Fatalf("%v: %v, not %v", p, err, want)
				}
				w.check("a Read that fails")
				if n := w.got.Total() - ahead; (n == 0) != (want == api.ErrShort) {
					t.Fatalf("%v, %v: %d events", p, want, n)
				}
				w.silent("what is dead", func() { w.read(right); w.write(nil); w.size(0); w.split(); w.hold() })
			}
		}
	})
}

// P18.9: by hand, of New and the first message of KNpsk0.
func TestCallsByHand(t *testing.T) {
	p := modified(t, "KN", "psk0")
	u := setups(p, 42)[first]
	r, want := trace.New(), trace.New()
	h, err := handshake.New(suite.Fast(r), p, u)
	if err != nil {
		t.Fatal(err)
	}
	s := suite.Fast(want)
	public := s.Public(u.Static)
	hash := s.Hash([]byte(u.Name))
	chain := hash
	hash = s.Hash(hash[:], u.Prologue)
	hash = s.Hash(hash[:], public[:])
	mustLog(t, "New", r, want)

	if _, err := h.Write([]byte("hail")); err != nil {
		t.Fatal(err)
	}
	chain, mixed, _ := kdf.Three(s, chain, u.Psks[0][:])
	hash = s.Hash(hash[:], mixed[:])
	public = s.Public(u.Draws[0])
	hash = s.Hash(hash[:], public[:])
	_, key := kdf.Two(s, chain, public[:])
	sealed := append([]byte("hail"), make([]byte, 16)...)
	aead.Seal(s, key, 0, hash[:], sealed, 4)
	s.Hash(hash[:], sealed)
	mustLog(t, "Write", r, want)
}

// P18.9: the plain engine logs nothing, in no Recorder.
func TestPlainLogsNothing(t *testing.T) {
	r := trace.New()
	plain, err := suite.Of(api.Plain, r)
	if err != nil {
		t.Fatal(err)
	}
	p := modified(t, "XX", "psk3")
	u := setups(p, 43)
	both := [2]*one{sideOf(t, plain, suite.Fast(nil), p, u[first]), sideOf(t, plain, suite.Fast(nil), p, u[second])}
	for range p.Lines {
		pass(both, []byte("hail"))
	}
	both[first].split()
	if r.Total() != 0 {
		t.Errorf("%d events", r.Total())
	}
}

// blindWalk is a whole handshake with secrets of its own, refused and failing calls in it, and the errors that came.
func blindWalk(t *testing.T, p api.Pattern, secrets draw) (*trace.Recorder, []error) {
	t.Helper()
	r := trace.New()
	u := setups(p, secrets)
	name := p.Name // what is public stays
	var both [2]*handshake.State
	for side := range both {
		u[side].Name, u[side].Prologue = name, []byte("ahoy")
		h, err := handshake.New(suite.Fast(r), p, u[side])
		if err != nil {
			t.Fatal(err)
		}
		both[side] = h
	}
	d := secrets
	var errs []error
	for n := range p.Lines {
		from, to := both[both[first].Turn()], both[1-both[first].Turn()]
		_, err := to.Write(d.bytes(5))
		_, err2 := from.Write(d.bytes(limit))
		message, err3 := from.Write(d.bytes(7 * n))
		if n == len(p.Lines)-1 && secrets%2 == 0 { // the secret of the public e and s hangs on keys: what fails does so alike
			message[len(message)-1] ^= 1
		}
		_, err4 := to.Read(message)
		errs = append(errs, err, err2, err3, err4)
	}
	for _, h := range both {
		_, _, err := h.Split()
		errs = append(errs, err)
	}
	return r, errs
}

// P0.4: other keys, psks, draws and payloads of the same lengths, with the same errors, log the same.
func TestBlind(t *testing.T) {
	all := []api.Pattern{modified(t, "NN"), modified(t, "XX"), modified(t, "IK"), modified(t, "X"), modified(t, "KK", "psk0", "psk2"), modified(t, "XX", "fallback", "psk1"), made("", "", "e; s, e, psk")}
	inParts(t, all, func(t *testing.T, i int, p api.Pattern) {
		for kind := range draw(2) {
			r, errs := blindWalk(t, p, 44+kind)
			for k := range draw(3) {
				other, same := blindWalk(t, p, 2*k+100+kind)
				if !slices.Equal(errs, same) {
					t.Fatalf("%v: %v, not %v", p, same, errs)
				}
				mustLog(t, "other secrets", other, r)
			}
			if r.Total() == 0 || slices.Contains(errs, api.ErrAuth) != (kind == 0) {
				t.Fatalf("%v: %d events, %v", p, r.Total(), errs)
			}
		}
	})
}

// P0.4: keys of noughts and of ones, too, log the same.
func TestBlindAtTheEdges(t *testing.T) {
	p := modified(t, "KK", "psk2")
	var traces []*trace.Recorder
	for _, b := range []byte{0, 1, 0x7f, 0x80, 0xff} {
		key := api.Key(bytes.Repeat([]byte{b}, 32))
		r := trace.New()
		var both [2]*handshake.State
		for side := range both {
			u := api.Setup{Initiator: side == first, Static: key, HasStatic: true, Remote: publicOf(key), HasRemote: true, Psks: []api.Key{key}, Draws: []api.Key{key}}
			both[side], _ = handshake.New(suite.Fast(r), p, u)
		}
		for range p.Lines {
			from := both[first].Turn()
			message, err := both[from].Write(key[:])
			payload, err2 := both[1-from].Read(message)
			if err != nil || err2 != nil || !bytes.Equal(payload, key[:]) {
				t.Fatalf("%v, %v", err, err2)
			}
		}
		traces = append(traces, r)
	}
	for _, r := range traces {
		mustLog(t, "keys at the edges", r, traces[0])
	}
}
