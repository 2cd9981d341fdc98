package grade_test

import (
	"fmt"
	"slices"
	"strings"
	"testing"

	"pintle/api"
	"pintle/grade"
	"pintle/pattern"
)

const (
	e, s, ee, es, se, ss, psk = api.TokenE, api.TokenS, api.TokenEE, api.TokenES, api.TokenSE, api.TokenSS, api.TokenPSK

	first, second = api.Initiator, api.Responder

	limit = 64 // of further messages, as the document writes it
)

// spelled are the words of the tokens.
var spelled = [...]string{"", "e", "s", "ee", "es", "se", "ss", "psk"}

// tokensOf reads tokens as the document writes them, with commas between.
func tokensOf(list string) []int {
	var tokens []int
	for _, word := range strings.Split(list, ", ") {
		if word != "" {
			tokens = append(tokens, slices.Index(spelled[:], word))
		}
	}
	return tokens
}

// begun is a pattern whose messages go by turns, from that side on; a message is written as the document's table does.
func begun(side int, i, r, messages string) api.Pattern {
	p := api.Pattern{Name: "Own", Before: [2][]int{tokensOf(i), tokensOf(r)}}
	for n, message := range strings.Split(messages, "; ") {
		p.Lines = append(p.Lines, api.Line{From: (side + n) % 2, Tokens: tokensOf(message)})
	}
	return p
}

// made is one that the initiator begins.
func made(i, r, messages string) api.Pattern { return begun(first, i, r, messages) }

func same(a, b api.Pattern) bool {
	return a.Name == b.Name && slices.Equal(a.Before[0], b.Before[0]) && slices.Equal(a.Before[1], b.Before[1]) &&
		slices.EqualFunc(a.Lines, b.Lines, func(x, y api.Line) bool { return x.From == y.From && slices.Equal(x.Tokens, y.Tokens) })
}

func find(t *testing.T, name string) api.Pattern {
	t.Helper()
	p, ok := pattern.Find(name)
	if !ok {
		t.Fatalf("%q is not found", name)
	}
	return p
}

func modified(t *testing.T, name string, words ...string) api.Pattern {
	t.Helper()
	p, err := pattern.Modify(find(t, name), words...)
	if err != nil {
		t.Fatalf("%s %q: %v", name, words, err)
	}
	return p
}

// written is Grades as the document's examples write them.
func written(grades []api.Grade) string {
	var all []string
	for _, g := range grades {
		all = append(all, fmt.Sprintf("%c %d %d", "ir"[g.From], g.Source, g.Dest))
	}
	return strings.Join(all, ", ")
}

// levels are the Grades of a pattern that is to be taken.
func levels(t *testing.T, p api.Pattern, more int) []api.Grade {
	t.Helper()
	got, err := grade.Levels(p, more)
	if err != nil {
		t.Fatalf("Levels(%v, %d): %v", p, more, err)
	}
	return got
}

// mustBe asks for Grades that are written out.
func mustBe(t *testing.T, p api.Pattern, more int, want string) {
	t.Helper()
	if got := written(levels(t, p, more)); got != want {
		t.Errorf("Levels(%v, %d): %s, not %s", p, more, got, want)
	}
}

// mustFollow holds the Grades against what the words of the document make of the pattern.
func mustFollow(t *testing.T, p api.Pattern, more int) []api.Grade {
	t.Helper()
	got := levels(t, p, more)
	if want := wanted(p, more); !slices.Equal(got, want) {
		t.Fatalf("Levels(%v, %d): %s, not %s", p, more, written(got), written(want))
	}
	return got
}

// mustRefuse asks for an error, and for nothing beside it.
func mustRefuse(t *testing.T, p api.Pattern, more int, want error) {
	t.Helper()
	if got, err := grade.Levels(p, more); err != want || len(got) != 0 {
		t.Fatalf("Levels(%v, %d): %v, %v, not %v", p, more, got, err, want)
	}
}

// draw is numbers by a fixed rule, so that every run sees the same ones.
type draw uint64

func (d *draw) below(n int) int {
	*d = *d*6364136223846793005 + 1442695040888963407
	return int(uint64(*d)>>33) % n
}
