package grade_test

import (
	"strings"
	"testing"

	"pintle/api"
	"pintle/pattern"
)

// P17.1: the examples of the document.
func TestExamples(t *testing.T) {
	for _, one := range []struct {
		name string
		more int
		want string
	}{
		{"N", 1, "i 0 2, i 0 2"},
		{"K", 1, "i 1 2, i 1 2"},
		{"X", 0, "i 1 2"},
		{"NN", 1, "i 0 0, r 0 1, i 0 1"},
		{"NK", 2, "i 0 2, r 2 1, i 0 5, r 2 1"},
		{"XX", 2, "i 0 0, r 2 1, i 2 5, r 2 5, i 2 5"},
		{"KK", 2, "i 1 2, r 2 4, i 2 5, r 2 5"},
		{"IK", 1, "i 1 2, r 2 4, i 2 5"},
		{"KN", 2, "i 0 0, r 0 3, i 2 1, r 0 5"},
		{"IX", 2, "i 0 0, r 2 3, i 2 5, r 2 5"},
		{"NX1", 2, "i 0 0, r 0 1, i 0 3, r 2 1, i 0 5"},
		{"X1X1", 1, "i 0 0, r 0 1, i 0 3, r 2 3, i 2 5"},
	} {
		mustBe(t, find(t, one.name), one.more, one.want)
	}
	mustBe(t, modified(t, "IK", "psk2"), 1, "i 1 2, r 2 4, i 2 5")
	mustRefuse(t, find(t, "XX"), -1, api.ErrArg)
	mustRefuse(t, find(t, "XX"), 65, api.ErrArg)
	mustRefuse(t, api.Pattern{}, 65, api.ErrInvalid)
}

// table is what the 38 patterns are worth with two further messages: for each a row of Source and Dest, message by message.
const table = `
N     02 02 02
K     12 12 12
X     12 12 12
NN    00 01 01 01
NK    02 21 05 21
NX    00 21 05 21
XN    00 01 21 05 21
XK    02 21 25 25 25
XX    00 21 25 25 25
KN    00 03 21 05
KK    12 24 25 25
KX    00 23 25 25
IN    00 03 21 05
IK    12 24 25 25
IX    00 23 25 25
NK1   00 21 05 21
NX1   00 01 03 21 05
X1N   00 01 01 03 21 05
X1K   02 21 05 23 25 25
XK1   00 21 25 25 25
X1K1  00 21 05 23 25 25
X1X   00 21 05 23 25 25
XX1   00 01 23 25 25
X1X1  00 01 03 23 25 25
K1N   00 01 21 05 21
K1K   02 21 25 25 25
KK1   00 23 25 25
K1K1  00 21 25 25 25
K1X   00 21 25 25 25
KX1   00 03 23 25 25
K1X1  00 01 23 25 25
I1N   00 01 21 05 21
I1K   02 21 25 25 25
IK1   00 23 25 25
I1K1  00 21 25 25 25
I1X   00 21 25 25 25
IX1   00 03 23 25 25
I1X1  00 01 23 25 25
`

// writtenRow is a row of the table as the document's examples write it.
func writtenRow(cells []string, oneWay bool) string {
	var all []string
	for i, cell := range cells {
		from := "ir"[i%2 : i%2+1]
		if oneWay {
			from = "i"
		}
		all = append(all, from+" "+cell[:1]+" "+cell[1:])
	}
	return strings.Join(all, ", ")
}

// P17.1: each of the 38 patterns, written out, with no further message, with one and with two.
func TestTable(t *testing.T) {
	rows := strings.Split(strings.TrimSpace(table), "\n")
	if len(rows) != 38 {
		t.Fatalf("%d rows", len(rows))
	}
	for _, row := range rows {
		cells := strings.Fields(row)
		p := find(t, cells[0])
		for more := range 3 {
			n := len(p.Lines) + more
			mustBe(t, p, more, writtenRow(cells[1:1+n], len(p.Lines) == 1))
		}
		if len(cells) != 3+len(p.Lines) {
			t.Errorf("%s: %d messages", p.Name, len(cells)-1)
		}
	}
}

// P17.1: each of the 38 with further messages of every number up to MaxMore.
func TestTableWithMore(t *testing.T) {
	count := 0
	for p := range pattern.All() {
		count++
		for more := range limit + 1 {
			if got := mustFollow(t, p, more); len(got) != len(p.Lines)+more {
				t.Fatalf("%s, %d: %d Grades", p.Name, more, len(got))
			}
		}
	}
	if count != 38 || limit != api.MaxMore {
		t.Errorf("%d patterns, at most %d further messages", count, api.MaxMore)
	}
}

// P17.1: patterns that are read from texts and stand in no table.
func TestTexts(t *testing.T) {
	for text, want := range map[string]string{
		"a:\n  -> e\n":                                                                    "i 0 0, i 0 0, i 0 0",
		"b:\n  <- s\n":                                                                    "r 0 0, i 0 0, r 0 0",
		"c:\n  <- e\n  ...\n  -> s\n":                                                     "i 0 0, i 0 0, i 0 0",
		"d:\n  <- e, s\n  ...\n  -> e, es, ee\n":                                          "i 0 3, i 0 3, i 0 3",
		"e:\n  <- e, s\n  ...\n  -> e, ee, es, s, se\n":                                   "i 2 3, i 2 3, i 2 3",
		"f:\n  <- e, s\n  ...\n  -> s, e, es, ss, ee\n":                                   "i 1 3, i 1 3, i 1 3",
		"g:\n  <- s\n  -> e\n  <- e, ee, es\n":                                            "r 0 0, i 0 0, r 2 1, i 0 5, r 2 1",
		"h:\n  -> s\n  <- s\n  ...\n  -> e\n  <- e, ee, se, ss\n  -> es\n":                "i 0 0, r 1 3, i 2 4, r 2 5, i 2 5",
		"i:\n  -> s\n  <- s\n  ...\n  <- e\n  -> e, ee, es, ss\n  <- se\n":                "r 0 0, i 1 3, r 2 4, i 2 5, r 2 5",
		"j:\n  -> s\n  <- s\n  ...\n  -> psk, e, es, ss\n  <- e, ee, psk, se, psk\n":      "i 1 2, r 2 4, i 2 5, r 2 5",
		"k:\n  -> e, s\n  <- e, s\n  ...\n  -> ee, es, ss\n  <- se\n  -> psk\n  <- psk\n": "i 1 3, r 2 4, i 2 5, r 2 5, i 2 5, r 2 5",
		"l:\n  -> e, s\n  <- e, s\n  ...\n  <- ee, es, se, ss\n":                          "r 2 3, i 2 5, r 2 5",
		"m:\n  -> e\n  <- e\n  ...\n  <- ee\n":                                            "r 0 1, i 0 1, r 0 1",
		"n:\n  -> s\n  <- e\n  ...\n  -> e, ee\n  <- s\n  -> es, se\n":                    "i 0 1, r 0 1, i 2 3, r 2 5, i 2 5",
	} {
		p, err := pattern.Parse(text)
		if err != nil {
			t.Errorf("%q: %v", text, err)
			continue
		}
		mustBe(t, p, 2, want)
		for more := range limit + 1 {
			mustFollow(t, p, more)
		}
	}
}

// P17.1: patterns that Modify makes, with fallback and with psk words, written out.
func TestModified(t *testing.T) {
	for _, one := range []struct{ name, words, want string }{
		{"XX", "fallback", "r 2 1, i 2 5, r 2 5, i 2 5"},
		{"KN", "fallback", "r 0 3, i 2 1, r 0 5"},
		{"NN", "fallback", "r 0 1, i 0 1, r 0 1"},
		{"NK1", "fallback psk1", "r 2 1, i 0 5, r 2 1"},
		{"IX", "fallback psk0 psk1", "r 2 3, i 2 5, r 2 5"},
		{"X1X1", "fallback", "r 0 1, i 0 3, r 2 3, i 2 5, r 2 5"},
		{"NX1", "fallback psk0", "r 0 1, i 0 3, r 2 1, i 0 5"},
		{"KX1", "fallback", "r 0 3, i 2 3, r 2 5, i 2 5"},
		{"N", "psk0", "i 0 2, i 0 2, i 0 2"},
		{"K", "psk0 psk1", "i 1 2, i 1 2, i 1 2"},
		{"XX", "psk0 psk1 psk2 psk3", "i 0 0, r 2 1, i 2 5, r 2 5, i 2 5"},
		{"KK", "psk1", "i 1 2, r 2 4, i 2 5, r 2 5"},
	} {
		mustBe(t, modified(t, one.name, strings.Fields(one.words)...), 2, one.want)
	}
	for _, p := range everyModified(t) {
		for _, more := range []int{0, 1, 2, 3, limit} {
			mustFollow(t, p, more)
		}
	}
}

// P17.1: the first further message is from the side that did not send the last Line, whoever began; a one-way pattern has them from the initiator.
func TestSenders(t *testing.T) {
	for messages := 1; messages <= 24; messages++ {
		for side := range 2 {
			p := begun(side, "e", "e", strings.Repeat("psk; ", messages-1)+"psk")
			got := levels(t, p, limit)
			for i, g := range got {
				want := (side + i) % 2
				if messages == 1 && side == first {
					want = first
				}
				if g != (api.Grade{From: want}) {
					t.Fatalf("%d messages, the first from %d: message %d is %v", messages, side, i, g)
				}
			}
		}
	}
}

// possible are the pairs of a Source and a Dest that a valid pattern can have: to be safe a sender wants ee with mine, and thine with ss; so a Dest 4 comes with the Source 2 alone.
func possible() [][2]int {
	return [][2]int{{0, 0}, {0, 1}, {0, 2}, {0, 3}, {0, 5}, {1, 2}, {1, 3}, {1, 5}, {2, 1}, {2, 3}, {2, 4}, {2, 5}}
}

// mustBeAll asks that each of the pairs has come for each sender, and no other one.
func mustBeAll(t *testing.T, seen map[api.Grade]int) {
	t.Helper()
	for _, pair := range possible() {
		for from := range 2 {
			if g := (api.Grade{From: from, Source: pair[0], Dest: pair[1]}); seen[g] == 0 {
				t.Errorf("no message has %v", g)
			}
		}
	}
	if len(seen) != 2*len(possible()) {
		t.Errorf("%d Grades: %v", len(seen), seen)
	}
}

// P17.1: every valid pattern of five tokens at most, psks too; each Source and each Dest comes, of either side.
func TestEverySmall(t *testing.T) {
	seen := map[api.Grade]int{}
	count := 0
	eachSmall(5, func(p api.Pattern) {
		count++
		for _, g := range mustFollow(t, p, 3) {
			seen[g]++
		}
	})
	mustBeAll(t, seen)
	if count < 30000 {
		t.Errorf("%d patterns", count)
	}
}

// P17.1: patterns of up to MaxTokens tokens, drawn.
func TestDrawn(t *testing.T) {
	d := draw(17)
	seen := map[api.Grade]int{}
	lengths := map[int]int{}
	for range 6000 {
		p := drawn(&d)
		for _, g := range mustFollow(t, p, d.below(limit+1)) {
			seen[g]++
		}
		lengths[tokens(p)]++
	}
	mustBeAll(t, seen)
	for n := 1; n <= api.MaxTokens; n++ {
		if lengths[n] == 0 {
			t.Errorf("no pattern has %d tokens", n)
		}
	}
}

func tokens(p api.Pattern) int {
	n := 0
	for _, line := range p.Lines {
		n += len(line.Tokens)
	}
	return n
}
