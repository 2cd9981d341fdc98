package pattern_test

import (
	"fmt"
	"testing"

	"pintle/api"
	"pintle/pattern"
)

// pskWords are psk0 up to the word of the last message.
func pskWords(p api.Pattern) []string {
	var words []string
	for n := range len(p.Lines) + 1 {
		words = append(words, fmt.Sprintf("psk%d", n))
	}
	return words
}

// mustModified asks for a pattern with these words, and that it is valid and comes back from its text.
func mustModified(t *testing.T, p api.Pattern, words ...string) api.Pattern {
	t.Helper()
	q, err := pattern.Modify(p, words...)
	if err != nil {
		t.Fatalf("%s %q: %v", p.Name, words, err)
	}
	mustReturn(t, q)
	return q
}

// mustReturn goes there and back: the pattern, its text, the pattern, its text.
func mustReturn(t *testing.T, p api.Pattern) {
	t.Helper()
	mustCheck(t, "there and back", p, nil)
	text, err := pattern.Print(p)
	if err != nil {
		t.Fatalf("%v: %v", p, err)
	}
	q, err := pattern.Parse(text)
	mustAnswer(t, text, q, err, p, nil)
	mustPrint(t, "once more", q, text, nil)
	mustBeOnce(t, p)
}

// mustBeOnce asks for what P15.8 says: of each side one e and one s at most, and each secret once at most.
func mustBeOnce(t *testing.T, p api.Pattern) {
	t.Helper()
	sent := map[placed]int{}
	mixed := map[int]int{}
	for _, line := range p.Lines {
		for _, token := range line.Tokens {
			sent[placed{line.From, token}]++
			mixed[token]++
		}
	}
	for side := range 2 {
		if sent[placed{side, e}] > 1 || sent[placed{side, s}] > 1 {
			t.Fatalf("%v: a key is sent twice", p)
		}
	}
	for _, secret := range []int{ee, es, se, ss} {
		if mixed[secret] > 1 {
			t.Fatalf("%v: a secret is mixed in twice", p)
		}
	}
}

// P15.7, P15.8: all 38 patterns, with each psk word, with all of them, with fallback, and with fallback and these.
func TestTableModified(t *testing.T) {
	back := 0
	for _, p := range table() {
		mustReturn(t, p)
		mustModified(t, p, pskWords(p)...)
		for _, word := range pskWords(p) {
			mustModified(t, p, word)
		}
		if _, err := pattern.Modify(p, "fallback"); err != nil {
			if err != api.ErrArg || fallsBack(p) {
				t.Errorf("%s fallback: %v", p.Name, err)
			}
			continue
		}
		back++
		q := mustModified(t, p, "fallback")
		mustModified(t, p, append([]string{"fallback"}, pskWords(q)...)...)
		for _, word := range pskWords(q) {
			mustModified(t, p, "fallback", word)
		}
	}
	if back != 28 { // all but the ten whose first message has an es
		t.Errorf("%d fall back", back)
	}
}

// P15.7: a text that Parse takes is what Print writes of it, and is valid; so are drawn patterns, there and back.
func TestThereAndBack(t *testing.T) {
	for _, p := range pool(t) {
		mustReturn(t, p)
	}
	d := draw(20)
	taken := 0
	for range 40000 {
		text := drawnText(&d)
		p, err := pattern.Parse(text)
		if err != nil {
			continue
		}
		taken++
		mustPrint(t, "again", p, text, nil)
		mustReturn(t, p)
	}
	valid := 0
	for range 40000 {
		p := named("Own", drawnPattern(&d))
		if pattern.Check(p) == nil {
			valid++
			mustReturn(t, p)
			if q, err := pattern.Modify(p, "psk0"); err == nil {
				mustReturn(t, q)
			}
		}
	}
	if taken < 300 || valid < 1000 {
		t.Errorf("%d texts were taken, %d patterns were valid", taken, valid)
	}
}

// P15.8: a key or a secret that would stand twice is refused, in each pattern, at every place behind it.
func TestNothingTwice(t *testing.T) {
	for _, p := range pool(t) {
		for i, line := range p.Lines {
			for _, token := range line.Tokens {
				for j := i; j < len(p.Lines); j++ {
					q := copied(p)
					q.Lines[j].Tokens = append(q.Lines[j].Tokens, token)
					if q.Lines[j].From != line.From && token <= s || token == psk {
						continue
					}
					want := wanted(q)
					mustCheck(t, "twice", q, want)
					if want == nil {
						t.Fatalf("%v: nothing offends", q)
					}
				}
			}
		}
	}
}
