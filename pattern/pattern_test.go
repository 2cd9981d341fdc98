package pattern_test

import (
	"slices"
	"strings"
	"testing"

	"pintle/api"
	"pintle/pattern"
)

const (
	e, s, ee, es, se, ss, psk = api.TokenE, api.TokenS, api.TokenEE, api.TokenES, api.TokenSE, api.TokenSS, api.TokenPSK

	first, second = api.Initiator, api.Responder
)

// tokensOf reads tokens as the document writes them, with commas between.
func tokensOf(list string) []int {
	var tokens []int
	for _, word := range strings.Split(list, ", ") {
		if word != "" {
			tokens = append(tokens, tokenNamed(word))
		}
	}
	return tokens
}

func tokenNamed(word string) int {
	return map[string]int{"e": e, "s": s, "ee": ee, "es": es, "se": se, "ss": ss, "psk": psk}[word]
}

// begun is a pattern whose messages go by turns, from that side on; a message is written as the document's table does.
func begun(side int, i, r, messages string) api.Pattern {
	p := api.Pattern{Name: "Own", Before: [2][]int{tokensOf(i), tokensOf(r)}}
	for n, message := range strings.Split(messages, "; ") {
		p.Lines = append(p.Lines, api.Line{From: (side + n) % 2, Tokens: tokensOf(message)})
	}
	return p
}

// made is one that the initiator begins.
func made(i, r, messages string) api.Pattern { return begun(first, i, r, messages) }

func named(name string, p api.Pattern) api.Pattern {
	p.Name = name
	return p
}

func same(a, b api.Pattern) bool {
	return a.Name == b.Name && slices.Equal(a.Before[0], b.Before[0]) && slices.Equal(a.Before[1], b.Before[1]) &&
		slices.EqualFunc(a.Lines, b.Lines, func(x, y api.Line) bool { return x.From == y.From && slices.Equal(x.Tokens, y.Tokens) })
}

// copied is the same in other memory, without room to spare.
func copied(p api.Pattern) api.Pattern {
	lines := make([]api.Line, len(p.Lines))
	for i, line := range p.Lines {
		lines[i] = api.Line{From: line.From, Tokens: slices.Clip(slices.Clone(line.Tokens))}
	}
	return api.Pattern{Name: p.Name, Before: [2][]int{slices.Clone(p.Before[0]), slices.Clone(p.Before[1])}, Lines: lines}
}

// mustAnswer holds a pattern and an error against those that are to be; beside an error there is nothing.
func mustAnswer(t *testing.T, what string, got api.Pattern, err error, want api.Pattern, wantErr error) {
	t.Helper()
	if wantErr != nil {
		want = api.Pattern{}
	}
	if err != wantErr || !same(got, want) {
		t.Fatalf("%s: %v, %v, not %v, %v", what, got, err, want, wantErr)
	}
}

func mustCheck(t *testing.T, what string, p api.Pattern, want error) {
	t.Helper()
	if err := pattern.Check(p); err != want {
		t.Fatalf("%s: %v: %v, not %v", what, p, err, want)
	}
}

func find(t *testing.T, name string) api.Pattern {
	t.Helper()
	p, ok := pattern.Find(name)
	if !ok || p.Name != name {
		t.Fatalf("Find(%q): %v, %v", name, p, ok)
	}
	return p
}

// draw is numbers by a fixed rule, so that every run sees the same ones.
type draw uint64

func (d *draw) below(n int) int {
	*d = *d*6364136223846793005 + 1442695040888963407
	return int(uint64(*d)>>33) % n
}

// pool is patterns that are valid: those of the table, and others of all kinds.
func pool(t *testing.T) []api.Pattern {
	t.Helper()
	all := slices.Collect(pattern.All())
	all = append(all,
		named("e", made("", "", "e")),
		named("A+z", made("", "", "psk, e, s; e, ee, se")),
		named("Z0a9", made("e", "e", "ee")),
		named("both", made("e, s", "e, s", "ee, es, se, ss")),
		named("both2", made("e, s", "e, s", "ee, es; se, ss")),
		named("back", begun(second, "e", "", "e, ee, s, es; s, se")),
		named("back1", begun(second, "e, s", "", "e, ee, se")),
		named("answers", begun(second, "", "", "s; e, es; e, ee")),
		named("s", begun(second, "", "", "s")),
		named("es", begun(second, "e", "e", "s; s")),
		named("full", made("", "", "e"+strings.Repeat(", psk", 23))),
		named("rows", begun(second, "e", "e", strings.Repeat("psk; ", 23)+"psk")),
		named("odd", begun(second, "s", "s", "e; e, ee, se, ss, es, psk; psk; psk, psk")),
	)
	for _, p := range all {
		mustCheck(t, "the pool", p, nil)
	}
	return all
}
