package handshake_test

import (
	"testing"

	"pintle/api"
	"pintle/cipher"
	"pintle/handshake"
	"pintle/suite"
	"pintle/symmetric"
)

// P18.6: Turn, Over, Remote and Met at every place, by hand: who sends, and what each side has been told.
func TestAsked(t *testing.T) {
	const none, i, r, both = "", "i", "r", "ir"
	for _, x := range []struct {
		p        api.Pattern
		turns    []int
		remotes  []string // who knows the other's static key, ahead of each message and behind the last one
		meetings []string // who knows the other's ephemeral one
	}{
		{modified(t, "NN"), []int{0, 1, 0}, []string{none, none, none}, []string{none, r, both}},
		{modified(t, "XX"), []int{0, 1, 0, 0}, []string{none, none, i, both}, []string{none, r, both, both}},
		{modified(t, "IK"), []int{0, 1, 0}, []string{i, both, both}, []string{none, r, both}},
		{modified(t, "KK"), []int{0, 1, 0}, []string{both, both, both}, []string{none, r, both}},
		{modified(t, "N"), []int{0, 0}, []string{i, i}, []string{none, r}},
		{modified(t, "X1X1"), []int{0, 1, 0, 1, 0}, []string{none, none, i, both, both}, []string{none, r, both, both, both}},
		{modified(t, "XX", "fallback"), []int{1, 0, 0}, []string{none, i, both}, []string{r, both, both}},
		{modified(t, "IX", "fallback"), []int{1, 0}, []string{r, both}, []string{r, both}},
		{modified(t, "NX", "psk2"), []int{0, 1, 0}, []string{none, none, i}, []string{none, r, both}},
		{begun(second, "e", "e, s", "psk"), []int{1, 0}, []string{i, i}, []string{both, both}},
		{begun(second, "e", "", "s, e; s"), []int{1, 0, 0}, []string{none, i, both}, []string{r, both, both}},
	} {
		u := setups(x.p, 35)
		pair := sides(t, x.p, 35)
		for place, turn := range x.turns {
			over := place == len(x.p.Lines)
			for side, o := range pair {
				letter := "ir"[side : side+1]
				remote, is := o.h.Remote()
				met, did := o.h.Met()
				wantRemote, wantMet := told{}, told{}
				if letter == x.remotes[place] || x.remotes[place] == both {
					wantRemote = told{publicOf(u[1-side].Static), true}
				}
				if letter == x.meetings[place] || x.meetings[place] == both {
					wantMet = told{publicOf(u[1-side].Draws[0]), true}
					if len(x.p.Before[1-side]) > 0 && x.p.Before[1-side][0] == e {
						wantMet.key = publicOf(u[1-side].Former)
					}
				}
				if o.h.Turn() != turn || o.h.Over() != over || o.h.Dead() || (told{remote, is}) != wantRemote || (told{met, did}) != wantMet {
					t.Errorf("%v, side %d, place %d: %d, %v, %v, %v", x.p, side, place, o.h.Turn(), o.h.Over(), is, did)
				}
			}
			if !over {
				pass(pair, []byte("hail"))
			}
		}
	}
}

// P18.6: what is asked changes nothing, however often.
func TestAskedAgain(t *testing.T) {
	pair := sides(t, modified(t, "XX", "psk0"), 36)
	for range pair[first].p.Lines {
		for range 3 {
			for _, o := range pair {
				o.hold()
			}
		}
		pass(pair, []byte("hail"))
	}
}

// P18.7: Split is refused ahead of the end, at each place.
func TestSplitAhead(t *testing.T) {
	for _, p := range append(tabled(), untabled()...) {
		pair := sides(t, p, 37)
		for range p.Lines {
			for _, o := range pair {
				if out, in, err := o.split(); out != nil || in != nil || err != api.ErrOver {
					t.Fatalf("%v: %v", p, err)
				}
			}
			pass(pair, nil)
		}
		for _, o := range pair {
			o.mustRefuse(api.ErrOver, api.ErrOver, api.ErrOver, nil)
		}
	}
}

// P18.7: the ciphers are those of symmetric's Split: of the initiator (first, second), of the responder (second, first).
func TestSplitByHand(t *testing.T) {
	p := modified(t, "NN")
	u := setups(p, 38)
	pair := sides(t, p, 38)
	pass(pair, nil)
	pass(pair, nil)
	y := symmetric.New(suite.Plain(), []byte(u[first].Name))
	i, r := publicOf(u[first].Draws[0]), publicOf(u[second].Draws[0])
	shared := suite.Plain().Shared(u[first].Draws[0], r)
	y.MixHash(u[first].Prologue)
	y.MixHash(i[:])
	y.MixHash(nil)
	y.MixHash(r[:])
	y.MixKey(shared[:])
	y.Seal(make([]byte, 16), 0)
	if pair[first].h.Hash() != y.Hash() {
		t.Fatalf("%x, not %x", pair[first].h.Hash(), y.Hash())
	}
	for _, o := range pair {
		a, b := y.Split()
		out, in, err := o.h.Split()
		if err != nil {
			t.Fatal(err)
		}
		if o.m.side == second {
			a, b = b, a
		}
		mustMatch(t, a, out)
		mustMatch(t, b, in)
	}
}

// mustMatch asks whether what one seals the other opens, number by number.
func mustMatch(t *testing.T, from, to *cipher.State) {
	t.Helper()
	for range 3 {
		buf := append([]byte("keel"), make([]byte, 16)...)
		n, err := from.Seal([]byte("ad"), buf, 4)
		m, err2 := to.Open([]byte("ad"), buf, n)
		if err != nil || err2 != nil || string(buf[:m]) != "keel" || from.Nonce() != to.Nonce() {
			t.Fatalf("%v, %v, %q", err, err2, buf[:m])
		}
	}
}

// P18.7: asked again, Split answers new ciphers with the same keys and the numbers 0, whatever was done to the earlier ones.
func TestSplitAgain(t *testing.T) {
	for _, engine := range engines() {
		p := modified(t, "XX")
		u := setups(p, 39)
		pair := [2]*one{sideOf(t, engine, suite.Fast(nil), p, u[first]), sideOf(t, engine, suite.Fast(nil), p, u[second])}
		for range p.Lines {
			pass(pair, nil)
		}
		seen := map[*cipher.State]bool{}
		for range 4 {
			out, in, err := pair[first].split()
			there, here, err2 := pair[second].split()
			if err != nil || err2 != nil {
				t.Fatal(err, err2)
			}
			for _, c := range []*cipher.State{out, in, there, here} {
				if seen[c] {
					t.Fatal("not a new one")
				}
				seen[c] = true
			}
			mustMatch(t, out, here)
			mustMatch(t, there, in)
			out.Rekey()
			in.Key(api.Key{1})
			there.SetNonce(api.LastNonce)
			*here = cipher.State{}
		}
	}
}

// P18.8: a zero State is dead and knows nothing.
func TestZero(t *testing.T) {
	for range 2 {
		var h handshake.State
		for range 2 {
			for _, list := range [][]byte{nil, {}, make([]byte, 32), make([]byte, limit+1)} {
				message, err := h.Write(list)
				payload, err2 := h.Read(list)
				size, err3 := h.Size(len(list))
				if err != api.ErrDead || err2 != api.ErrDead || err3 != api.ErrDead || len(message) != 0 || len(payload) != 0 || size != 0 {
					t.Errorf("%v, %v, %v", err, err2, err3)
				}
			}
			size, err := h.Size(-1)
			out, in, err2 := h.Split()
			if err != api.ErrArg || size != 0 || err2 != api.ErrDead || out != nil || in != nil {
				t.Errorf("%v, %v", err, err2)
			}
			remote, is := h.Remote()
			met, did := h.Met()
			if h.Turn() != 0 || h.Over() || !h.Dead() || h.Hash() != (api.Key{}) || remote != (api.Key{}) || is || met != (api.Key{}) || did {
				t.Errorf("%d, %v, %v, %x", h.Turn(), h.Over(), h.Dead(), h.Hash())
			}
		}
	}
}

// P18.8, W8: of a nil State what answers an error answers ErrArg, all else its zero value.
func TestNil(t *testing.T) {
	var h *handshake.State
	for _, list := range [][]byte{nil, {}, make([]byte, 32), make([]byte, limit+1)} {
		message, err := h.Write(list)
		payload, err2 := h.Read(list)
		size, err3 := h.Size(len(list))
		if err != api.ErrArg || err2 != api.ErrArg || err3 != api.ErrArg || len(message) != 0 || len(payload) != 0 || size != 0 {
			t.Errorf("%v, %v, %v", err, err2, err3)
		}
	}
	size, err := h.Size(-1)
	out, in, err2 := h.Split()
	if err != api.ErrArg || size != 0 || err2 != api.ErrArg || out != nil || in != nil {
		t.Errorf("%v, %v", err, err2)
	}
	remote, is := h.Remote()
	met, did := h.Met()
	if h.Turn() != 0 || h.Over() || h.Dead() || h.Hash() != (api.Key{}) || remote != (api.Key{}) || is || met != (api.Key{}) || did {
		t.Errorf("%d, %v, %v, %x", h.Turn(), h.Over(), h.Dead(), h.Hash())
	}
}
