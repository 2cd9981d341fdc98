package handshake_test

import (
	"bytes"
	"fmt"
	"slices"
	"testing"

	"pintle/api"
	"pintle/cipher"
	"pintle/handshake"
	"pintle/pattern"
	"pintle/suite"
	"pintle/trace"
)

// inParts runs a test of many patterns in parts, side by side.
func inParts(t *testing.T, all []api.Pattern, run func(t *testing.T, i int, p api.Pattern)) {
	t.Helper()
	const parts = 8
	for part := range parts {
		t.Run(fmt.Sprint("part ", part), func(t *testing.T) {
			t.Parallel()
			for i := part; i < len(all); i += parts {
				if err := pattern.Check(all[i]); err != nil {
					t.Fatalf("%v: %v", all[i], err)
				}
				run(t, i, all[i])
			}
		})
	}
}

// P18.2, P18.3, P18.6, P18.10: whole handshakes of every pattern that has a name, and of others, are what the formulas say, message by message.
func TestWalks(t *testing.T) {
	all := append(everyModified(t), untabled()...)
	all = append(all, drawnPatterns(1, 150)...)
	inParts(t, all, func(t *testing.T, i int, p api.Pattern) {
		d := draw(i)
		both := sides(t, p, d)
		for range p.Lines {
			for _, o := range both {
				o.size(d.below(99))
				o.split()
			}
			pass(both, d.bytes(d.below(99)))
		}
		for _, o := range both {
			if !o.h.Over() || o.h.Dead() || o.h.Turn() != 0 {
				t.Fatalf("%v is not over", p)
			}
			o.split()
		}
	})
}

// agree plays a handshake between two States as they are, and a few messages behind it in both ways.
func agree(t *testing.T, what string, both [2]*handshake.State, messages int, d *draw) {
	t.Helper()
	for n := range messages {
		from, to := both[both[first].Turn()], both[1-both[first].Turn()]
		payload := d.bytes(d.below(150))
		message, err := from.Write(payload)
		got, err2 := to.Read(message)
		if err != nil || err2 != nil || !bytes.Equal(got, payload) || from.Hash() != to.Hash() {
			t.Fatalf("%s, message %d: %v, %v, %x, not %x", what, n, err, err2, got, payload)
		}
	}
	if !both[first].Over() || !both[second].Over() {
		t.Fatalf("%s: not over", what)
	}
	out, in, err := both[first].Split()
	there, here, err2 := both[second].Split()
	if err != nil || err2 != nil {
		t.Fatalf("%s: %v, %v", what, err, err2)
	}
	mustMatch(t, out, here)
	mustMatch(t, there, in)
}

// begin is both sides of Setups that fit, each on its engine.
func begin(t *testing.T, p api.Pattern, u [2]api.Setup, i, r suite.Suite) [2]*handshake.State {
	t.Helper()
	a, err := handshake.New(i, p, u[first])
	b, err2 := handshake.New(r, p, u[second])
	if err != nil || err2 != nil {
		t.Fatalf("%v: %v, %v", p, err, err2)
	}
	return [2]*handshake.State{a, b}
}

// P18.10, P0.3: both sides with each pair of engines, of all 38 patterns, with psk words and without.
func TestPairsOfEngines(t *testing.T) {
	inParts(t, tabled(), func(t *testing.T, n int, p api.Pattern) {
		d := draw(50 + n)
		for i := range 2 {
			for r := range 2 {
				q := p
				if i != r {
					q, _ = pattern.Modify(p, "psk"+fmt.Sprint(d.below(len(p.Lines)+1)))
				}
				of := [2]suite.Suite{suite.Fast(trace.New()), suite.Plain()}
				agree(t, q.Name, begin(t, q, setups(q, d), of[i], of[r]), len(q.Lines), &d)
			}
		}
	})
}

// P18.10: also those of patterns that fall back, and of valid ones that are in no table, with a zero Suite and one that has no Recorder.
func TestOtherPairs(t *testing.T) {
	all := append(untabled(), modified(t, "XX", "fallback"), modified(t, "IX", "fallback", "psk0"), modified(t, "NN", "fallback", "psk1"), modified(t, "KX", "fallback"))
	inParts(t, append(all, drawnPatterns(51, 40)...), func(t *testing.T, n int, p api.Pattern) {
		d := draw(52 + n)
		agree(t, p.Name, begin(t, p, setups(p, d), suite.Suite{}, suite.Fast(nil)), len(p.Lines), &d)
	})
}

// P18.10: whatever the keys, psks and draws are: noughts, ones, the same for all.
func TestAnyKeysAgree(t *testing.T) {
	all := []api.Pattern{modified(t, "KK", "psk0", "psk2"), modified(t, "XX"), modified(t, "IK"), modified(t, "X1X1"), modified(t, "XX", "fallback")}
	inParts(t, all, func(t *testing.T, n int, p api.Pattern) {
		d := draw(53)
		for _, b := range []byte{0, 1, 0x7f, 0x80, 0xfe, 0xff} {
			key := api.Key(bytes.Repeat([]byte{b}, 32))
			u := setups(p, 54)
			for side := range u {
				u[side].Static, u[side].Former, u[side].Draws = key, key, []api.Key{key}
				u[side].Remote, u[side].Ephemeral = publicOf(key), publicOf(key)
				for i := range u[side].Psks {
					u[side].Psks[i] = key
				}
			}
			agree(t, p.Name, begin(t, p, u, suite.Fast(nil), suite.Plain()), len(p.Lines), &d)
		}
	})
}

// P18.10: sides that do not have the same come apart where a key first hangs on it: another Name, another Prologue, another psk, another Remote.
func TestApart(t *testing.T) {
	p := modified(t, "IK", "psk1")
	for what, change := range map[string]func(u *api.Setup){
		"Name":     func(u *api.Setup) { u.Name += "+" },
		"Prologue": func(u *api.Setup) { u.Prologue = append(u.Prologue, 0) },
		"Psks":     func(u *api.Setup) { u.Psks[0][31] ^= 128 },
		"Remote":   func(u *api.Setup) { u.Remote[0] ^= 1 },
	} {
		u := setups(p, 55)
		change(&u[first])
		both := [2]*one{sideOf(t, suite.Fast(nil), suite.Fast(nil), p, u[first]), sideOf(t, suite.Fast(nil), suite.Fast(nil), p, u[second])}
		if _, err := both[second].read(both[first].mustWrite(nil)); err != api.ErrStatic && (what != "Psks" || err != api.ErrAuth) {
			t.Errorf("%s: %v", what, err)
		}
	}
}

// refusals are calls that are refused at every place of a handshake, and change nothing.
func refusals(o *one, d *draw) {
	long := make([]byte, limit+1+d.below(9))
	own := !o.m.over() && o.m.turn() == o.m.side
	for range 3 {
		switch what := d.below(6); {
		case what == 0:
			o.size(-1 - d.below(9))
		case what == 1:
			o.size(limit + d.below(99))
		case what == 2:
			o.write(long)
		case what == 3:
			o.read(long)
		case what == 4 && !o.m.over():
			o.split()
		case what == 5 && own:
			o.read(d.bytes(d.below(120)))
		case !own:
			o.write(d.bytes(d.below(120)))
		}
	}
}

// P18.11, P0.6: refused calls between the others: all that is asked behind them is answered, and logged, as if they had not been asked.
func TestRefusedBetween(t *testing.T) {
	all := append(tabled(), untabled()...)
	inParts(t, append(all, drawnPatterns(56, 30)...), func(t *testing.T, n int, p api.Pattern) {
		u := setups(p, 57)
		d := draw(58 + n)
		both, calm := [2]watched{watch(t, p, u[first]), watch(t, p, u[second])}, [2]*handshake.State{}
		var quiet [2]*trace.Recorder
		for side := range calm {
			quiet[side] = trace.New()
			calm[side], _ = handshake.New(suite.Fast(quiet[side]), p, u[side])
		}
		for range p.Lines {
			from := calm[first].Turn()
			for _, w := range both {
				refusals(w.one, &d)
			}
			payload := d.bytes(d.below(50))
			message, err := both[from].h.Write(payload)
			same, err2 := calm[from].Write(payload)
			both[from].m.write(payload)
			if err != nil || err2 != nil || !bytes.Equal(message, same) {
				t.Fatalf("%v: %v, %v", p, err, err2)
			}
			for _, w := range both {
				refusals(w.one, &d)
			}
			both[1-from].mustRead(message, payload)
			if _, err := calm[1-from].Read(message); err != nil || calm[1-from].Hash() != both[1-from].h.Hash() {
				t.Fatalf("%v: %v", p, err)
			}
		}
		for side, w := range both {
			refusals(w.one, &d)
			mustLog(t, "refused calls between", w.got, quiet[side])
		}
	})
}

// P0.6: a draw that is not there is not used: behind ErrDraw a Setup with draws goes the same way as one that was never asked.
func TestNoDrawChangesNothing(t *testing.T) {
	p := modified(t, "XX")
	u := setups(p, 59)
	u[second].Draws = nil
	both := [2]*one{sideOf(t, suite.Fast(nil), suite.Fast(nil), p, u[first]), sideOf(t, suite.Plain(), suite.Fast(nil), p, u[second])}
	pass(both, []byte("hail"))
	hash := both[second].h.Hash()
	for range 3 {
		if _, err := both[second].write([]byte("ho")); err != api.ErrDraw || both[second].h.Hash() != hash || both[second].h.Dead() {
			t.Fatal(err)
		}
		if n, err := both[second].size(2); n != 98 || err != nil {
			t.Fatalf("Size: %d, %v", n, err)
		}
	}
}

// W2, P0.2: both engines, with a Recorder and without one, answer alike, call by call, those too that are refused or fail.
func TestEnginesAlike(t *testing.T) {
	all := []api.Pattern{modified(t, "XX"), modified(t, "IK", "psk0", "psk2"), modified(t, "NN"), modified(t, "XX", "fallback"), made("", "", "e; s, e, psk"), modified(t, "X")}
	inParts(t, all, func(t *testing.T, n int, p api.Pattern) {
		for seed := range draw(4) {
			var want string
			for i, engine := range engines() {
				got := script(t, p, engine, 60+seed)
				if i == 0 {
					want = got
				}
				if got != want {
					t.Fatalf("%v, engine %d:\n%s\nnot\n%s", p, i, got, want)
				}
			}
		}
	})
}

// script is what both sides on one engine answer to drawn calls, written down.
func script(t *testing.T, p api.Pattern, engine suite.Suite, seed draw) string {
	t.Helper()
	var b bytes.Buffer
	both := begin(t, p, setups(p, seed), engine, engine)
	d := seed
	var message []byte
	for range 12 {
		h := both[d.below(2)]
		switch d.below(6) {
		case 0, 1:
			if m, err := h.Write(d.bytes(d.below(40))); err == nil {
				message = m
				fmt.Fprintf(&b, "%x\n", m)
			} else {
				fmt.Fprintln(&b, err)
			}
		case 2, 3:
			payload, err := h.Read(message)
			fmt.Fprintf(&b, "%x %v\n", payload, err)
		case 4:
			if d.below(3) == 0 {
				payload, err := h.Read(d.bytes(d.below(120)))
				fmt.Fprintf(&b, "%x %v\n", payload, err)
			}
		default:
			size, err := h.Size(d.below(70000) - 9)
			fmt.Fprintln(&b, size, err)
		}
		remote, is := h.Remote()
		met, did := h.Met()
		out, in, err := h.Split()
		fmt.Fprintf(&b, "%d %v %v %x %x %v %x %v %v\n", h.Turn(), h.Over(), h.Dead(), h.Hash(), remote, is, met, did, err)
		for _, c := range []*cipher.State{out, in} {
			buf := make([]byte, 20)
			n, err := c.Seal(nil, buf, 4)
			fmt.Fprintf(&b, "%x %d %v\n", buf, n, err)
		}
	}
	return b.String()
}

// P0.7: the names of the errors that end a handshake are these three, and no other refusal does.
func TestOnlyTheseEndIt(t *testing.T) {
	d := draw(61)
	ends := []error{api.ErrShort, api.ErrStatic, api.ErrAuth}
	for range 300 {
		p := fragile(t)[d.below(len(fragile(t)))]
		o := passed(t, p, 62, d.below(len(p.Lines)))[d.below(2)]
		_, err := o.read(d.bytes(d.below(150)))
		if o.h.Dead() != slices.Contains(ends, err) {
			t.Fatalf("%v: %v, dead %v", p, err, o.h.Dead())
		}
	}
}
