package grade_test

import (
	"slices"
	"strings"
	"testing"

	"pintle/api"
	"pintle/grade"
	"pintle/pattern"
)

// known are valid patterns of all kinds: the table's with all words, own ones, drawn ones.
func known(t *testing.T) []api.Pattern {
	t.Helper()
	all := append(everyModified(t),
		made("", "", "e"),
		made("", "", "psk, e, s; e, ee, se"),
		made("e", "e", "ee"),
		made("e, s", "e, s", "ee, es, se, ss"),
		made("e, s", "e, s", "ee, es; se, ss"),
		begun(second, "e, s", "e, s", "ee, es, se; ss; psk"),
		begun(second, "", "", "s; e, es; e, ee"),
		begun(second, "", "", "s"),
		begun(second, "e", "e", "s; s"),
		made("", "", "e"+strings.Repeat(", psk", 23)),
		begun(second, "e", "e", strings.Repeat("psk; ", 23)+"psk"),
		begun(second, "s", "s", "e; e, ee, es, ss, se, psk; psk; psk, psk"),
	)
	d := draw(19)
	for range 600 {
		all = append(all, drawn(&d))
	}
	for _, p := range all {
		if err := pattern.Check(p); err != nil {
			t.Fatalf("%v: %v", p, err)
		}
	}
	return all
}

// mustRise asks that of each side's messages a later one is worth no less than an earlier one.
func mustRise(t *testing.T, p api.Pattern, grades []api.Grade) {
	t.Helper()
	var last [2]api.Grade
	for i, g := range grades {
		if was := last[g.From]; g.Source < was.Source || g.Dest < was.Dest {
			t.Fatalf("%v: message %d is worth less than one ahead of it: %s", p, i, written(grades))
		}
		last[g.From] = g
	}
}

// mustSettle asks that the third further message, and each behind it, is worth what the one two places ahead is worth.
func mustSettle(t *testing.T, p api.Pattern, grades []api.Grade) {
	t.Helper()
	for i := len(p.Lines) + 2; i < len(grades); i++ {
		if grades[i] != grades[i-2] {
			t.Fatalf("%v: message %d is not worth what the one two places ahead is worth: %s", p, i, written(grades))
		}
	}
}

// P17.3, P0.13: a later message of a side is worth no less than an earlier one, behind the handshake too.
func TestWorthNeverFalls(t *testing.T) {
	for _, p := range known(t) {
		mustRise(t, p, levels(t, p, limit))
	}
	eachSmall(4, func(p api.Pattern) { mustRise(t, p, levels(t, p, 6)) })
}

// P17.3: the Grades with fewer further messages are the beginning of those with more.
func TestBeginnings(t *testing.T) {
	for _, p := range known(t) {
		less := levels(t, p, 0)
		for more := 1; more <= limit; more++ {
			got := levels(t, p, more)
			if len(got) != len(less)+1 || !slices.Equal(got[:len(less)], less) {
				t.Fatalf("%v, %d: %s behind %s", p, more, written(got), written(less))
			}
			less = got
		}
	}
}

// P17.3: behind the second further message nothing new comes.
func TestSettled(t *testing.T) {
	for _, p := range known(t) {
		mustSettle(t, p, levels(t, p, limit))
	}
	eachSmall(4, func(p api.Pattern) { mustSettle(t, p, levels(t, p, 6)) })
}

// hasStatic tells whether a side's static key is known ahead or sent in one of these Lines.
func hasStatic(p api.Pattern, side, lines int) bool {
	if slices.Contains(p.Before[side], s) {
		return true
	}
	return slices.ContainsFunc(p.Lines[:lines], func(line api.Line) bool { return line.From == side && slices.Contains(line.Tokens, s) })
}

// mustWant asks for the tokens and the keys without which a message cannot be worth what it is.
func mustWant(t *testing.T, p api.Pattern) {
	t.Helper()
	for i, g := range levels(t, p, 3) {
		lines := min(i+1, len(p.Lines))
		mixed := slices.ContainsFunc(p.Lines[:lines], func(line api.Line) bool { return slices.Contains(line.Tokens, ee) })
		if g.Dest >= 3 && !mixed {
			t.Fatalf("%v: message %d has the Dest %d without an ee", p, i, g.Dest)
		}
		if g.Dest >= 2 && !hasStatic(p, 1-g.From, lines) {
			t.Fatalf("%v: message %d has the Dest %d without a static key of the receiver", p, i, g.Dest)
		}
		if g.Source > 0 && !hasStatic(p, g.From, lines) {
			t.Fatalf("%v: message %d has the Source %d without a static key of the sender", p, i, g.Source)
		}
	}
}

// P17.4: a Dest of 3 or above wants ee, of 2 or above a static key of the receiver, a Source above 0 one of the sender.
func TestWants(t *testing.T) {
	for _, p := range known(t) {
		mustWant(t, p)
	}
	eachSmall(5, func(p api.Pattern) { mustWant(t, p) })
}

// P17.4: a name says nothing, also one that is none, or another pattern's, or long.
func TestNames(t *testing.T) {
	names := []string{"", "XX", "N", "K", "NN", "IKpsk2", "XXfallback", "Noise_XX_25519_ChaChaPoly_BLAKE2s", " ", "\x00", "\xff\xfe", "a b", strings.Repeat("X", 5000)}
	for _, p := range known(t) {
		want := levels(t, p, 3)
		for _, name := range names {
			p.Name = name
			if got := levels(t, p, 3); !slices.Equal(got, want) {
				t.Fatalf("%v: %s, not %s", p, written(got), written(want))
			}
		}
	}
}

// withoutPsks is a pattern with its psks taken out, and how many they were.
func withoutPsks(p api.Pattern) (api.Pattern, int) {
	out := api.Pattern{Name: p.Name, Before: p.Before}
	for _, line := range p.Lines {
		kept := slices.DeleteFunc(slices.Clone(line.Tokens), func(token int) bool { return token == psk })
		out.Lines = append(out.Lines, api.Line{From: line.From, Tokens: kept})
	}
	return out, tokens(p) - tokens(out)
}

// P17.4: modifiers that add psks alone make no difference, nor do psks at other places.
func TestPsks(t *testing.T) {
	count := 0
	mustBeAlike := func(p api.Pattern) {
		plain, psks := withoutPsks(p)
		if psks == 0 {
			return
		}
		want, err := grade.Levels(plain, 3)
		if err != nil { // a message of psks alone has nothing left
			return
		}
		count++
		if got := levels(t, p, 3); !slices.Equal(got, want) {
			t.Fatalf("%v: %s, not %s", p, written(got), written(want))
		}
	}
	for _, p := range known(t) {
		mustBeAlike(p)
	}
	eachSmall(5, mustBeAlike)
	if count < 5000 {
		t.Errorf("%d patterns with psks", count)
	}
}

// P17.4: each pattern of the table with each list of psk words is worth what it is worth without one.
func TestPskWords(t *testing.T) {
	for p := range pattern.All() {
		want := levels(t, p, 2)
		for _, words := range [][]string{{}, {"psk0"}, {"psk1"}, {"psk2"}, {"psk3"}, {"psk4"}, {"psk0", "psk1"}, {"psk1", "psk2"}, {"psk0", "psk1", "psk2", "psk3", "psk4"}} {
			q, err := pattern.Modify(p, words...)
			if err != nil {
				continue
			}
			if got := levels(t, q, 2); !slices.Equal(got, want) {
				t.Errorf("%s: %s, not %s", q.Name, written(got), written(want))
			}
		}
	}
}
