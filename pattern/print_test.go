package pattern_test

import (
	"math"
	"strings"
	"testing"

	"pintle/api"
	"pintle/pattern"
)

func mustPrint(t *testing.T, what string, p api.Pattern, want string, wantErr error) {
	t.Helper()
	if got, err := pattern.Print(p); got != want || err != wantErr {
		t.Fatalf("%s: %v: %q, %v, not %q, %v", what, p, got, err, want, wantErr)
	}
}

// P15.2, P15.3: keys known ahead of one side, of both, of none; every token; either side first.
func TestPrint(t *testing.T) {
	for _, x := range []struct {
		p    api.Pattern
		text string
	}{
		{named("IKpsk2", made("", "s", "e, es, s, ss; e, ee, se, psk")), "IKpsk2:\n  <- s\n  ...\n  -> e, es, s, ss\n  <- e, ee, se, psk\n"},
		{named("NN", made("", "", "e; e, ee")), "NN:\n  -> e\n  <- e, ee\n"},
		{named("N+0", made("s", "", "e; e, ee, se")), "N+0:\n  -> s\n  ...\n  -> e\n  <- e, ee, se\n"},
		{named("KK", made("s", "s", "e, es, ss; e, ee, se")), "KK:\n  -> s\n  <- s\n  ...\n  -> e, es, ss\n  <- e, ee, se\n"},
		{named("b", made("e, s", "e", "ee; s, es, se, ss, psk")), "b:\n  -> e, s\n  <- e\n  ...\n  -> ee\n  <- s, es, se, ss, psk\n"},
		{named("a", made("e", "e, s", "ee, s, se, ss, es")), "a:\n  -> e\n  <- e, s\n  ...\n  -> ee, s, se, ss, es\n"},
		{named("9", begun(second, "e", "", "psk, e, ee, s, es; s, se")), "9:\n  -> e\n  ...\n  <- psk, e, ee, s, es\n  -> s, se\n"},
		{named("+", begun(second, "", "", "e")), "+:\n  <- e\n"},
	} {
		mustPrint(t, "a text", x.p, x.text, nil)
		x.p.Before[0], x.p.Before[1] = append([]int{}, x.p.Before[0]...), append([]int{}, x.p.Before[1]...)
		mustPrint(t, "empty lists, not nil ones", x.p, x.text, nil)
	}
	for _, p := range pool(t) {
		mustPrint(t, "of the pool", p, textOf(p), nil)
	}
}

// P15.3: what is not valid has the error of Check, whatever its Name is and however long it would be.
func TestPrintOfWrong(t *testing.T) {
	names := []string{"X", "", "a b", "X:", strings.Repeat("X", 5000)}
	mustFail := func(p api.Pattern, want error) {
		t.Helper()
		for _, name := range names {
			mustPrint(t, "a wrong one", named(name, p), "", want)
		}
	}
	mustFail(api.Pattern{}, api.ErrInvalid)
	mustFail(made("s, e", "", "e"), api.ErrInvalid)
	mustFail(made("", "", "e; "), api.ErrInvalid)
	mustFail(made("", "", "e, e"), api.ErrTwice)
	mustFail(made("", "", "ee"), api.ErrLacks)
	mustFail(made("", "", "psk"), api.ErrUnsafe)
	mustFail(made("", "s", "e, es; e"), api.ErrUnsafe)
	for _, token := range []int{0, -1, 8, math.MinInt, math.MaxInt} {
		p := made("", "", "e")
		p.Lines[0].Tokens[0] = token
		mustFail(p, api.ErrInvalid)
		p = made("e", "", "psk")
		p.Before[first][0] = token
		mustFail(p, api.ErrInvalid)
		p = made("", "", "e; e")
		p.Lines[1].From = 3 + token
		mustFail(p, api.ErrInvalid)
	}
	d := draw(17)
	for range 20000 {
		p := drawnPattern(&d)
		p.Name = []string{"Own", "", "a b"}[d.below(3)]
		err := wanted(p)
		switch {
		case err != nil:
			mustPrint(t, "a drawn one", p, "", err)
		case p.Name != "Own":
			mustPrint(t, "a drawn one", p, "", api.ErrText)
		default:
			mustPrint(t, "a drawn one", p, textOf(p), nil)
		}
	}
}

// P15.2, P15.3: of every byte whether it may stand in a name: alone, first, within, last.
func TestNames(t *testing.T) {
	p := made("", "", "e")
	for b := range 256 {
		one := string([]byte{byte(b)})
		for _, name := range []string{one, one + "X", "X" + one + "X", "X" + one, one + one} {
			is := strings.Contains("ABCDEFGHIJKLMNOPQRSTUVWXYZabcdefghijklmnopqrstuvwxyz0123456789+", one)
			if is != nameForm.MatchString(name) {
				t.Fatalf("the model: %q", name)
			}
			if is {
				mustPrint(t, "a name", named(name, p), name+":\n  -> e\n", nil)
			} else {
				mustPrint(t, "no name", named(name, p), "", api.ErrText)
			}
		}
	}
	for _, name := range []string{"", " ", "a b", "é", "X:", "XX\n", "XXé", "ΧΧ", "\x00", "X_Y", "X-Y", "X,Y"} {
		mustPrint(t, "no name", named(name, p), "", api.ErrText)
	}
	all := "ABCDEFGHIJKLMNOPQRSTUVWXYZabcdefghijklmnopqrstuvwxyz0123456789+"
	mustPrint(t, "all signs", named(all, p), all+":\n  -> e\n", nil)
}

// P15.3: a text of MaxText bytes, of one more, and of very many.
func TestPrintOfLong(t *testing.T) {
	for _, p := range pool(t) {
		rest := len(textOf(named("", p)))
		for more := -2; more < 3; more++ {
			q := named(strings.Repeat("X", api.MaxText-rest+more), p)
			if more <= 0 {
				mustPrint(t, "a long one", q, textOf(q), nil)
			} else {
				mustPrint(t, "one too long", q, "", api.ErrText)
			}
		}
		for _, size := range []int{api.MaxText - 1, api.MaxText, api.MaxText + 1, 1 << 20} {
			mustPrint(t, "a name too long", named(strings.Repeat("X", size), p), "", api.ErrText)
		}
	}
}
