package handshake_test

import (
	"math"
	"slices"
	"strings"
	"testing"

	"pintle/api"
	"pintle/handshake"
	"pintle/pattern"
	"pintle/suite"
	"pintle/symmetric"
	"pintle/trace"
)

// engines are all there are, with a Recorder and without.
func engines() []suite.Suite {
	return []suite.Suite{suite.Fast(trace.New()), suite.Fast(nil), suite.Plain(), {}}
}

// P18.1: New of each of the 38 patterns, both sides, on every engine: none is refused, and the hash is that of the formulas.
func TestNewEach(t *testing.T) {
	inParts(t, tabled(), func(t *testing.T, i int, p api.Pattern) {
		for _, u := range setups(p, draw(i)) {
			for _, engine := range engines() {
				sideOf(t, engine, suite.Fast(nil), p, u)
			}
		}
	})
}

// P18.1: New of every pattern with modifiers, and of valid ones that are in no table; the Name of a pattern says nothing.
func TestNewOthers(t *testing.T) {
	all := append(everyModified(t), untabled()...)
	all = append(all, drawnPatterns(2, 300)...)
	inParts(t, all, func(t *testing.T, i int, p api.Pattern) {
		for _, u := range setups(p, 3) {
			o := sideOf(t, suite.Fast(nil), suite.Fast(nil), p, u)
			p.Name = "\x00 no name"
			if h, err := handshake.New(suite.Fast(nil), p, u); err != nil || h.Hash() != o.h.Hash() {
				t.Fatalf("%v: %v", p, err)
			}
		}
	})
}

// offenders are patterns that are not valid, by the error of Check.
func offenders() map[error][]api.Pattern {
	return map[error][]api.Pattern{
		api.ErrInvalid: {
			{}, {Name: "XX"}, {Lines: []api.Line{{}}}, {Lines: make([]api.Line, 100000)},
			made("s, e", "", "e"), made("", "ee", "e"), made("e, e", "", "s"), made("", "", "e; "), made("", "", "; e"),
			made("", "", "e"+strings.Repeat(", psk", 24)),
			{Lines: []api.Line{{From: -1, Tokens: []int{e}}}}, {Lines: []api.Line{{From: 2, Tokens: []int{e}}}},
			{Lines: []api.Line{{From: math.MinInt, Tokens: []int{e}}}}, {Lines: []api.Line{{From: math.MaxInt, Tokens: []int{e}}}},
			{Lines: []api.Line{{From: first, Tokens: []int{e}}, {From: first, Tokens: []int{s}}}},
			{Lines: []api.Line{{From: first, Tokens: []int{0}}}}, {Lines: []api.Line{{From: first, Tokens: []int{8}}}},
			{Lines: []api.Line{{From: first, Tokens: []int{e, math.MinInt}}}}, {Lines: []api.Line{{From: first, Tokens: []int{e, math.MaxInt}}}},
			{Before: [2][]int{{9}, nil}, Lines: []api.Line{{From: first, Tokens: []int{e}}}},
		},
		api.ErrTwice:  {made("", "", "e, e"), made("s", "", "s"), made("", "s", "e, es; e, es, ee"), made("e", "e", "ee; ee"), begun(second, "", "e", "e")},
		api.ErrLacks:  {made("", "", "ee"), made("", "", "e; ee"), made("", "", "es, e"), made("s", "e", "ss"), begun(second, "e", "", "ee")},
		api.ErrUnsafe: {made("", "", "psk"), made("s", "", "e; e, se"), made("", "s", "e, es; e"), made("", "", "psk, s, e"), made("s", "s", "e, es, ss; e, ee"), begun(second, "e", "s", "es")},
	}
}

// P18.1: the error of Check, each of its errors, whatever the Setup has or lacks: it comes ahead of ErrKey.
func TestNewOffenders(t *testing.T) {
	all := offenders()
	if len(all) != 4 {
		t.Fatalf("%d errors", len(all))
	}
	for want, patterns := range all {
		for _, p := range patterns {
			full := setups(p, 4)
			for _, u := range []api.Setup{{}, {Initiator: true}, {Psks: make([]api.Key, 30)}, full[first], full[second]} {
				if h, err := handshake.New(suite.Plain(), p, u); err != want || h != nil {
					t.Fatalf("New(%v): %v, %v, not %v", p, h, err, want)
				}
			}
		}
	}
}

// P18.1: for each thing that a pattern needs there is ErrKey, if it alone is not there, and for nothing else.
func TestNewNeedsByHand(t *testing.T) {
	const static, remote, former, ephemeral = "static", "remote", "former", "ephemeral"
	for _, x := range []struct {
		p    api.Pattern
		side int
		want []string
	}{
		{modified(t, "NN"), first, nil}, {modified(t, "NN"), second, nil},
		{modified(t, "NK"), first, []string{remote}}, {modified(t, "NK"), second, []string{static}},
		{modified(t, "KN"), first, []string{static}}, {modified(t, "KN"), second, []string{remote}},
		{modified(t, "XN"), first, []string{static}}, {modified(t, "XN"), second, nil},
		{modified(t, "NX"), first, nil}, {modified(t, "NX"), second, []string{static}},
		{modified(t, "IK"), first, []string{static, remote}}, {modified(t, "IK"), second, []string{static}},
		{modified(t, "KK"), first, []string{static, remote}}, {modified(t, "KK"), second, []string{static, remote}},
		{modified(t, "XX"), first, []string{static}}, {modified(t, "XX"), second, []string{static}},
		{modified(t, "XX", "fallback"), first, []string{static, former}}, {modified(t, "XX", "fallback"), second, []string{static, ephemeral}},
		{modified(t, "NN", "fallback"), first, []string{former}}, {modified(t, "NN", "fallback"), second, []string{ephemeral}},
		{modified(t, "IX", "fallback", "psk0"), first, []string{static, former}}, {modified(t, "IX", "fallback", "psk0"), second, []string{static, remote, ephemeral}},
		{made("e, s", "e, s", "psk"), first, []string{static, remote, former, ephemeral}}, {made("e, s", "e, s", "psk"), second, []string{static, remote, former, ephemeral}},
		{begun(second, "", "e", "s"), first, []string{ephemeral}}, {begun(second, "", "e", "s"), second, []string{static, former}},
	} {
		for _, without := range []string{"", static, remote, former, ephemeral} {
			u := setups(x.p, 5)[x.side]
			u.HasStatic, u.HasRemote = without != static, without != remote
			u.HasFormer, u.HasEphemeral = without != former, without != ephemeral
			var want error
			if slices.Contains(x.want, without) {
				want = api.ErrKey
			}
			if h, err := handshake.New(suite.Fast(nil), x.p, u); err != want || (h == nil) != (want != nil) {
				t.Errorf("%v, side %d without %q: %v", x.p, x.side, without, err)
			}
		}
	}
}

// P18.1: every choice of what a Setup has, with a psk fewer, as many, or more, of patterns of every kind.
func TestNewNeeds(t *testing.T) {
	all := append(tabled(), untabled()...)
	for _, p := range tabled() {
		for _, words := range [][]string{{"psk0"}, {"psk0", "psk1"}, {"fallback"}, {"fallback", "psk0"}} {
			if q, err := pattern.Modify(p, words...); err == nil {
				all = append(all, q)
			}
		}
	}
	inParts(t, all, func(t *testing.T, i int, p api.Pattern) {
		for _, full := range setups(p, 6) {
			for chosen := range 16 {
				for _, psks := range []int{-1, 0, 1, 2} {
					u := cloneSetup(full)
					u.HasStatic, u.HasRemote, u.HasFormer, u.HasEphemeral = chosen&1 != 0, chosen&2 != 0, chosen&4 != 0, chosen&8 != 0
					u.Psks = append(u.Psks, api.Key{1}, api.Key{2})[:max(0, len(full.Psks)+psks)]
					h, err := handshake.New(suite.Fast(nil), p, u)
					_, want := newModel(suite.Fast(nil), p, u)
					if err != want || (h == nil) != (want != nil) {
						t.Fatalf("New(%v) of %d with %d psks: %v, not %v", p, chosen, len(u.Psks), err, want)
					}
				}
			}
		}
	})
}

// onlyNeeded is a Setup in which all that the pattern does not need is not there.
func onlyNeeded(p api.Pattern, u api.Setup) api.Setup {
	m, _ := newModel(suite.Fast(nil), p, u)
	own, other := p.Before[m.side], p.Before[1-m.side]
	if !m.hasStatic() {
		u.Static, u.HasStatic = api.Key{}, false
	}
	if !slices.Contains(other, s) {
		u.Remote, u.HasRemote = api.Key{}, false
	}
	if !slices.Contains(own, e) {
		u.Former, u.HasFormer = api.Key{}, false
	}
	if !slices.Contains(other, e) {
		u.Ephemeral, u.HasEphemeral = api.Key{}, false
	}
	return u
}

// P18.1: what a pattern does not need is not looked at: with it and without it a whole handshake is the same, and nobody is told more.
func TestNewUnneeded(t *testing.T) {
	inParts(t, append(tabled(), untabled()...), func(t *testing.T, i int, p api.Pattern) {
		full := setups(p, 7)
		var both, bare [2]*one
		for side := range full {
			both[side] = sideOf(t, suite.Fast(nil), suite.Fast(nil), p, full[side])
			bare[side] = sideOf(t, suite.Fast(nil), suite.Fast(nil), p, onlyNeeded(p, full[side]))
		}
		for range p.Lines {
			pass(both, []byte("hail"))
			pass(bare, []byte("hail"))
			for side := range both {
				a, b := both[side].h, bare[side].h
				one, is := a.Remote()
				two, too := b.Remote()
				if a.Hash() != b.Hash() || one != two || is != too {
					t.Fatalf("%v, side %d", p, side)
				}
			}
		}
	})
}

// P18.1: keys that are needed are taken as they are, whatever their bytes.
func TestNewAnyKeys(t *testing.T) {
	all := func(b byte) (k api.Key) {
		for i := range k {
			k[i] = b
		}
		return k
	}
	for _, p := range []api.Pattern{made("e, s", "e, s", "psk"), made("e, s", "e, s", "ee, es, se, ss"), modified(t, "KK")} {
		for _, b := range []byte{0, 1, 127, 128, 255} {
			for _, initiator := range []bool{true, false} {
				u := api.Setup{Initiator: initiator, Static: all(b), HasStatic: true, Remote: all(b), HasRemote: true, Former: all(b), HasFormer: true, Ephemeral: all(b), HasEphemeral: true}
				u.Psks = make([]api.Key, count(p, psk))
				o := sideOf(t, suite.Fast(nil), suite.Plain(), p, u)
				if key, is := o.h.Remote(); key != all(b) || !is {
					t.Errorf("%v: Remote %x, %v", p, key, is)
				}
			}
		}
	}
}

// hashOf is the hash behind a name, a prologue and public keys; a key that is marked goes into the keys too.
func hashOf(name, prologue []byte, keys ...told) api.Key {
	y := symmetric.New(suite.Plain(), name)
	y.MixHash(prologue)
	for _, one := range keys {
		y.MixHash(one.key[:])
		if one.is {
			y.MixKey(one.key[:])
		}
	}
	return y.Hash()
}

// P18.1: the hash behind New, of a Name of any bytes and any length.
func TestNewName(t *testing.T) {
	d := draw(8)
	names := []string{"", "\x00", "NN", strings.Repeat("\x00", 32), strings.Repeat("\x00", 33), "\xff\xfe no text \x80", "Noise_NN_25519_ChaChaPoly_BLAKE2s"}
	for _, n := range []int{1, 16, 31, 32, 33, 63, 64, 65, 255, 256, 5000} {
		names = append(names, string(d.bytes(n)))
	}
	for _, name := range names {
		for _, engine := range engines() {
			for _, initiator := range []bool{true, false} {
				h, err := handshake.New(engine, modified(t, "NN"), api.Setup{Name: name, Initiator: initiator})
				if want := hashOf([]byte(name), nil); err != nil || h.Hash() != want {
					t.Errorf("%q: %v, %x, not %x", name, err, h.Hash(), want)
				}
			}
		}
	}
}

// P18.1: the hash behind New, of a Prologue of any length, none and an empty one alike.
func TestNewPrologue(t *testing.T) {
	d := draw(9)
	prologues := [][]byte{nil, {}, {0}, make([]byte, 32), make([]byte, 70000)}
	for _, n := range []int{1, 31, 32, 33, 64, 65, 1000} {
		prologues = append(prologues, d.bytes(n))
	}
	for _, prologue := range prologues {
		for _, engine := range engines() {
			h, err := handshake.New(engine, modified(t, "NN"), api.Setup{Name: "keel", Prologue: prologue})
			if want := hashOf([]byte("keel"), prologue); err != nil || h.Hash() != want {
				t.Errorf("a prologue of %d bytes: %v, %x, not %x", len(prologue), err, h.Hash(), want)
			}
		}
	}
}

// P18.1: the keys known ahead in their order, the initiator's first on either side; in a psk pattern an e goes into the keys too, which shows in the next message alone.
func TestNewBefore(t *testing.T) {
	for _, x := range []struct {
		i, r string
		want string // letters: whose, and which
	}{
		{"", "", ""}, {"e", "", "ie"}, {"s", "", "is"}, {"e, s", "", "ie is"}, {"", "e", "re"}, {"", "s", "rs"}, {"", "e, s", "re rs"},
		{"e", "e", "ie re"}, {"e", "s", "ie rs"}, {"s", "e", "is re"}, {"s", "s", "is rs"}, {"e, s", "e, s", "ie is re rs"},
		{"e, s", "s", "ie is rs"}, {"e", "e, s", "ie re rs"},
	} {
		for _, tokens := range []string{"", "psk"} {
			p := made(x.i, x.r, strings.Trim("e, "+tokens, ", "))
			if strings.Contains(x.i, "e") {
				p = made(x.i, x.r, strings.Trim("psk, "+tokens, ", "))
			}
			for _, u := range setups(p, 10) {
				keys := []told{}
				full := setups(p, 10)
				for _, word := range strings.Fields(x.want) {
					of := full[strings.IndexByte("ir", word[0])]
					key := told{publicOf(of.Static), false}
					if word[1] == 'e' {
						key = told{publicOf(of.Former), count(p, psk) > 0}
					}
					keys = append(keys, key)
				}
				h, err := handshake.New(suite.Fast(nil), p, u)
				if want := hashOf([]byte(u.Name), u.Prologue, keys...); err != nil || h.Hash() != want {
					t.Errorf("%v: %v", p, err)
				}
			}
		}
	}
}
