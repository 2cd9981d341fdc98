package pattern_test

import (
	"math"
	"slices"
	"strings"
	"testing"

	"pintle/api"
)

// P15.1: the examples of the document.
func TestExamplesOfCheck(t *testing.T) {
	mustCheck(t, "the zero Pattern", api.Pattern{}, api.ErrInvalid)
	twice := made("", "", "e; e, ee")
	twice.Lines[1].From = first
	mustCheck(t, "two messages of one side", twice, api.ErrInvalid)
	mustCheck(t, "a message without a token", made("", "", "e; "), api.ErrInvalid)
	mustCheck(t, "25 tokens", made("", "", "e"+strings.Repeat(", psk", 24)), api.ErrInvalid)
	for _, x := range []struct {
		i, r, messages string
		want           error
	}{
		{"", "", "e, e", api.ErrTwice},
		{"", "", "e; ee", api.ErrLacks},
		{"s", "", "s", api.ErrTwice},
		{"", "s", "e, es; e, es, ee", api.ErrTwice},
		{"s", "", "e; e, se", api.ErrUnsafe},
		{"", "s", "e, es; e, s", api.ErrTwice},
		{"", "s", "e, es; e", api.ErrUnsafe},
		{"", "", "psk, s, e", api.ErrUnsafe},
		{"", "", "psk, e, s; e, ee, se", nil},
		{"s", "s", "e, es, ss", nil},
		{"s", "s", "e, es, ss; e, ee", api.ErrUnsafe},
		{"", "", "e", nil},
	} {
		mustCheck(t, "an example", made(x.i, x.r, x.messages), x.want)
	}
}

// P15.1, 1: what is known ahead is nothing, e, s, or e and s in this order, of each side.
func TestShapeOfBefore(t *testing.T) {
	wrong := [][]int{{s, e}, {e, e}, {s, s}, {e, s, e}, {e, s, s}, {e, s, psk}, {ee}, {es}, {se}, {ss}, {psk}, {0}, {-1}, {8},
		{e, 0}, {0, s}, {e, ee}, {psk, s}, {e, psk}, {math.MinInt}, {math.MaxInt}, {e + 256}, slices.Repeat([]int{e, s}, 1000)}
	right := map[string][][]int{"e": {nil, {}}, "s": {{e}}, "e, psk": {{s}}, "psk": {{e, s}}}
	for message, lists := range right {
		for _, list := range lists {
			p := begun(first, "", "", message)
			p.Before[first] = list
			mustCheck(t, "known ahead of the initiator", p, nil)
			p = begun(second, "e", "", message)
			p.Before[second] = list
			mustCheck(t, "known ahead of the responder", p, nil)
		}
	}
	for _, list := range wrong {
		for side := range 2 {
			for _, p := range []api.Pattern{made("", "", "e"), made("s", "s", "e"), made("", "", "ee"), {}} {
				p.Before[side] = list
				mustCheck(t, "known ahead", p, api.ErrInvalid)
			}
		}
	}
}

// P15.1, 1: there is a message at least, each is of one of the sides, by turns, and has a token at least.
func TestShapeOfLines(t *testing.T) {
	mustCheck(t, "no message", api.Pattern{Name: "X", Lines: []api.Line{}}, api.ErrInvalid)
	mustCheck(t, "no message, keys ahead", api.Pattern{Before: [2][]int{{e}, {s}}}, api.ErrInvalid)
	for side := range 2 {
		p := begun(side, "", "", "e; e, ee; s, se; s, es")
		if side == second {
			p = begun(side, "", "", "e; e, ee; s, es; s, se")
		}
		mustCheck(t, "four messages", p, nil)
		for at := range p.Lines {
			for _, from := range []int{-1, 2, 3, 256, 257, math.MinInt, math.MaxInt} {
				q := copied(p)
				q.Lines[at].From = from
				mustCheck(t, "a message of nobody", q, api.ErrInvalid)
			}
			q := copied(p)
			q.Lines[at].From = 1 - q.Lines[at].From
			mustCheck(t, "two of one side", q, api.ErrInvalid)
			for _, none := range [][]int{nil, {}} {
				q := copied(p)
				q.Lines[at].Tokens = none
				mustCheck(t, "a message without a token", q, api.ErrInvalid)
			}
			q = copied(p)
			q.Lines = slices.Insert(q.Lines, at, api.Line{From: q.Lines[at].From, Tokens: []int{psk}})
			mustCheck(t, "two of one side, one of them more", q, api.ErrInvalid)
		}
	}
}

// P15.1, 1: all tokens are of the seven, at every place.
func TestShapeOfTokens(t *testing.T) {
	for _, p := range pool(t) {
		for i, line := range p.Lines {
			for j := range line.Tokens {
				for _, token := range []int{0, -1, -7, 8, 9, 64, 257, math.MinInt, math.MaxInt, math.MinInt + 1} {
					q := copied(p)
					q.Lines[i].Tokens[j] = token
					mustCheck(t, "no token", q, api.ErrInvalid)
				}
			}
		}
	}
}

// P15.1, 1: MaxTokens in all messages, and one more; in one message, in two, in many.
func TestMaxTokens(t *testing.T) {
	for n := 20; n < 30; n++ {
		want := error(nil)
		if n > 24 {
			want = api.ErrInvalid
		}
		mustCheck(t, "in one message", made("", "", "e"+strings.Repeat(", psk", n-1)), want)
		mustCheck(t, "in two", made("", "", "e"+strings.Repeat(", psk", 9)+"; e, ee"+strings.Repeat(", psk", n-12)), want)
		mustCheck(t, "in two, one in the second", begun(second, "", "", "e"+strings.Repeat(", psk", n-2)+"; e"), want)
		mustCheck(t, "in many", begun(second, "e", "e", strings.Repeat("psk; ", n-1)+"psk"), want)
		if n > 24 {
			mustCheck(t, "what else offends comes later", made("", "", "e"+strings.Repeat(", e", n-1)), api.ErrInvalid)
		}
	}
	mustCheck(t, "very many", made("", "", "e"+strings.Repeat(", psk", 100000)), api.ErrInvalid)
	mustCheck(t, "very many messages", begun(first, "e", "e", strings.Repeat("psk; ", 100000)+"psk"), api.ErrInvalid)
	long := make([]int, 1<<20)
	many := api.Pattern{Lines: slices.Repeat([]api.Line{{Tokens: long}, {From: 1, Tokens: long}}, 1<<10)}
	mustCheck(t, "messages that share their tokens", many, api.ErrInvalid)
}
