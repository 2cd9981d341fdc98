package session_test

import (
	"testing"

	"pintle/api"
	"pintle/session"
	"pintle/suite"
)

// P19.6: Turn, Over, Remote and HasRemote at every place, by hand: who sends, and what each side has been told.
func TestSightByHand(t *testing.T) {
	const none, i, r, both = "", "i", "r", "ir"
	for full, x := range map[string]struct {
		turns   []int
		remotes []string // who knows the other's static key, ahead of each message and behind the last one
	}{
		"NN":           {[]int{0, 1, 0}, []string{none, none, none}},
		"XX":           {[]int{0, 1, 0, 0}, []string{none, none, i, both}},
		"IK":           {[]int{0, 1, 0}, []string{i, both, both}},
		"KK":           {[]int{0, 1, 0}, []string{both, both, both}},
		"N":            {[]int{0, 0}, []string{i, i}},
		"X":            {[]int{0, 0}, []string{i, both}},
		"X1X1":         {[]int{0, 1, 0, 1, 0}, []string{none, none, i, both, both}},
		"XXfallback":   {[]int{1, 0, 0}, []string{none, i, both}},
		"INfallback":   {[]int{1, 0}, []string{r, r}},
		"NXpsk2":       {[]int{0, 1, 0}, []string{none, none, i}},
		"XNpsk0+psk3":  {[]int{0, 1, 0, 0}, []string{none, none, none, r}},
		"IXfallback":   {[]int{1, 0}, []string{r, both}},
		"K1X1fallback": {[]int{1, 0, 0}, []string{r, both, both}},
	} {
		u := setups(full, 50)
		pair := watched(t, full, 50)
		for place, turn := range x.turns {
			isOver := place == len(x.turns)-1
			for side, o := range pair {
				want := api.Sight{Turn: turn, Over: isOver, Hash: o.m.h.Hash()}
				if letter := "ir"[side : side+1]; letter == x.remotes[place] || x.remotes[place] == both {
					want.Remote, want.HasRemote = publicOf(u[1-side].Static), true
				}
				if got := o.s.Sight(); got != want {
					t.Errorf("%s, side %d, place %d: %+v, not %+v", full, side, place, got, want)
				}
			}
			if !isOver {
				pass(pair, []byte("hail"))
			}
		}
	}
}

// P19.6: behind the handshake all but the numbers stays as it is, through messages, refused ones too, Rekey and SetNonce.
func TestSightBehind(t *testing.T) {
	inParts(t, append(tabled(), modified()...), func(t *testing.T, i int, full string) {
		both := over(sides(t, full, 51))
		want := [2]api.Sight{both[first].s.Sight(), both[second].s.Sight()}
		for side, x := range want {
			if !x.Over || x.Dead || x.Turn != 0 || x.Out != 0 || x.In != 0 || x.Hash != want[1-side].Hash || x.Hash == (api.Key{}) {
				t.Fatalf("%s, side %d: %+v", full, side, x)
			}
		}
		for n := range 4 {
			for _, from := range senders(full) {
				say(both, from, []byte("hail"))
				both[1-from].mustRefuseRead(api.ErrAuth, 16)
				both[from].must("Rekey", both[from].rekey(out), nil)
				both[1-from].must("Rekey", both[1-from].rekey(in), nil)
				want[from].Out, want[1-from].In = uint64(n)+1, uint64(n)+1
			}
			for side, o := range both {
				if got := o.s.Sight(); got != want[side] {
					t.Fatalf("%s, side %d: %+v, not %+v", full, side, got, want[side])
				}
			}
		}
	})
}

// P19.6: a dead Session tells what it told ahead of the message that failed, but that it is dead.
func TestSightDead(t *testing.T) {
	for _, full := range []string{"NN", "XX", "IK", "KKpsk0", "X", "XXfallback"} {
		for place := range messagesOf(t, full) {
			both := sides(t, full, 52)
			for range place {
				pass(both, nil)
			}
			o := both[1-both[first].m.h.Turn()]
			want := o.s.Sight()
			want.Dead = true
			o.mustRefuseRead(api.ErrShort, 3)
			for range 3 {
				if got := o.s.Sight(); got != want {
					t.Errorf("%s, place %d: %+v, not %+v", full, place, got, want)
				}
				o.mustBeDead()
			}
		}
	}
}

// P19.6: to ask changes nothing, however often.
func TestSightAgain(t *testing.T) {
	both := watched(t, "XXpsk1", 53)
	for range 6 {
		for range 3 {
			both[first].hold("Sight")
			both[second].hold("Sight")
		}
		say(both, both[first].m.h.Turn(), []byte("hail"))
	}
}

// asked are all calls of a Session that answer an error.
func asked(s *session.Session) []func() ([]byte, error) {
	var all []func() ([]byte, error)
	for _, n := range []int{0, 1, 15, 16, 32, limit, limit + 1} {
		all = append(all, func() ([]byte, error) { return s.Write(make([]byte, n)) }, func() ([]byte, error) { return s.Read(make([]byte, n)) })
	}
	for _, way := range append(neither(), out, in) {
		all = append(all, func() ([]byte, error) { return nil, s.Rekey(way) }, func() ([]byte, error) { return nil, s.SetNonce(way, 3) })
	}
	return append(all, func() ([]byte, error) { return s.Write(nil) }, func() ([]byte, error) { return s.Read(nil) })
}

// P19.6, chapter 19: a zero Session is dead, and all else that it tells is zero.
func TestZero(t *testing.T) {
	var s session.Session
	for range 2 {
		for i, call := range asked(&s) {
			if list, err := call(); err != api.ErrDead || len(list) != 0 {
				t.Errorf("call %d: %x, %v", i, list, err)
			}
			if got := s.Sight(); got != (api.Sight{Dead: true}) {
				t.Errorf("call %d: %+v", i, got)
			}
		}
	}
}

// W8: of a nil Session what answers an error answers ErrArg, and the Sight is zero, not even dead.
func TestNil(t *testing.T) {
	var s *session.Session
	for i, call := range asked(s) {
		if list, err := call(); err != api.ErrArg || len(list) != 0 {
			t.Errorf("call %d: %x, %v", i, list, err)
		}
		if got := s.Sight(); got != (api.Sight{}) {
			t.Errorf("call %d: %+v", i, got)
		}
	}
}

// W8: of a Session that is copied as a value the copy goes on, if it alone is used, under way and behind the handshake.
func TestCopied(t *testing.T) {
	both := [2]*one{}
	for side, u := range setups("XX", 54) {
		both[side] = sideOf(t, suite.Fast(nil), u)
	}
	for range 8 {
		for _, o := range both {
			again := *o.s
			o.s = &again
		}
		say(both, both[first].m.h.Turn(), []byte("hail"))
	}
}
