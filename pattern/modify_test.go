package pattern_test

import (
	"fmt"
	"slices"
	"strings"
	"testing"

	"pintle/api"
	"pintle/pattern"
)

// mustModify asks for an answer that is written out, of Modify and of the model.
func mustModify(t *testing.T, p api.Pattern, words string, want api.Pattern, wantErr error) {
	t.Helper()
	list := strings.Fields(words)
	got, err := pattern.Modify(p, list...)
	mustAnswer(t, p.Name+" "+words, got, err, want, wantErr)
	got, err = modified(p, list...)
	if wantErr != nil {
		got = api.Pattern{}
	}
	mustAnswer(t, "the model: "+p.Name+" "+words, got, err, want, wantErr)
}

// mustModel holds Modify against the model.
func mustModel(t *testing.T, p api.Pattern, words ...string) error {
	t.Helper()
	got, err := pattern.Modify(p, words...)
	want, wantErr := modified(p, words...)
	mustAnswer(t, fmt.Sprintf("%v %q", p, words), got, err, want, wantErr)
	return err
}

// P15.6: the examples of the document.
func TestExamplesOfModify(t *testing.T) {
	mustModify(t, find(t, "XX"), "fallback psk0", named("XXfallback+psk0", begun(second, "e", "", "psk, e, ee, s, es; s, se")), nil)
	mustModify(t, find(t, "KN"), "fallback", named("KNfallback", begun(second, "e, s", "", "e, ee, se")), nil)
	for name, words := range map[string]string{"IK": "fallback", "XX": "psk0 fallback", "N": "fallback"} {
		mustModify(t, find(t, name), words, api.Pattern{}, api.ErrArg)
	}
	for _, words := range []string{"psk3", "psk1 psk1", "psk01"} {
		mustModify(t, find(t, "NN"), words, api.Pattern{}, api.ErrArg)
	}
}

// P15.6: without a word it is the pattern, whatever its Name is.
func TestModifyWithoutWords(t *testing.T) {
	for _, p := range pool(t) {
		for _, name := range []string{p.Name, "", "a b", "\xff:\n", "XXpsk0+psk1"} {
			q := named(name, p)
			mustModify(t, q, "", q, nil)
			got, err := pattern.Modify(q, []string{}...)
			mustAnswer(t, "an empty list of words", got, err, q, nil)
		}
	}
}

// P15.6: fallback where it may stand: e, s, or e and s alone, of either side, beside keys that are known ahead already.
func TestFallback(t *testing.T) {
	for _, x := range []struct{ p, want api.Pattern }{
		{made("", "", "e; e, ee"), begun(second, "e", "", "e, ee")},
		{made("", "", "s; e"), begun(second, "s", "", "e")},
		{made("", "", "e, s; e, ee, se"), begun(second, "e, s", "", "e, ee, se")},
		{made("s", "", "e; e, ee, se"), begun(second, "e, s", "", "e, ee, se")},
		{made("e", "", "s; e, ee, se"), begun(second, "e, s", "", "e, ee, se")},
		{made("", "s", "e; e, ee, es"), begun(second, "e", "s", "e, ee, es")},
		{made("s", "e, s", "e; ee, es, se"), begun(second, "e, s", "e, s", "ee, es, se")},
		{begun(second, "", "", "e; e, ee; s, es"), begun(first, "", "e", "e, ee; s, es")},
		{begun(second, "", "s", "e; e, ee, es"), begun(first, "", "e, s", "e, ee, es")},
		{begun(second, "", "e", "s; e, ee, es"), begun(first, "", "e, s", "e, ee, es")},
		{begun(second, "s", "", "e, s; e, es, ee"), begun(first, "s", "e, s", "e, es, ee")},
	} {
		x.want.Name = "Ownfallback"
		mustModify(t, x.p, "fallback", x.want, nil)
	}
}

// P15.6: fallback where it may not stand: behind another word, and where the first message has another form.
func TestNoFallback(t *testing.T) {
	for _, p := range []api.Pattern{
		made("", "", "s, e; e"), made("", "", "e, psk; e"), made("", "", "psk, e; e"), made("e", "", "psk; e"), made("", "s", "e, es; e, ee"),
		made("", "", "e, s, psk; e"), made("e", "e", "ee; s"), made("", "", "e, psk, s; e"), made("", "s", "e, es, s; e, ee, se"),
	} {
		mustCheck(t, "valid", p, nil)
		mustModify(t, p, "fallback", api.Pattern{}, api.ErrArg)
	}
	for _, words := range []string{"fallback fallback", "psk0 fallback", "psk1 fallback", "fallback psk0 fallback", "Fallback", "fallback0", "fall", "fallback psk0 psk1 psk2 fallback"} {
		mustModify(t, find(t, "XX"), words, api.Pattern{}, api.ErrArg)
	}
	mustModify(t, made("", "", "e"), "fallback", api.Pattern{}, api.ErrInvalid)
	mustModify(t, begun(second, "", "", "e"), "fallback", api.Pattern{}, api.ErrInvalid)
	for _, word := range []string{"psk0", "psk1", "psk2", "fallback", "x", ""} {
		if err := mustModel(t, made("", "", "e"), "fallback", word); err != api.ErrArg {
			t.Errorf("%q behind the only message: %v", word, err)
		}
	}
}

// P15.6: each psk word that may stand, alone and with others that rise.
func TestPSKs(t *testing.T) {
	nn := find(t, "NN")
	for words, messages := range map[string]string{
		"psk0": "psk, e; e, ee", "psk1": "e, psk; e, ee", "psk2": "e; e, ee, psk",
		"psk0 psk1": "psk, e, psk; e, ee", "psk0 psk2": "psk, e; e, ee, psk", "psk1 psk2": "e, psk; e, ee, psk",
		"psk0 psk1 psk2": "psk, e, psk; e, ee, psk",
	} {
		name := "NN" + strings.ReplaceAll(words, " ", "+")
		mustModify(t, nn, words, named(name, made("", "", messages)), nil)
	}
	mustModify(t, find(t, "XX"), "fallback psk1 psk2", named("XXfallback+psk1+psk2", begun(second, "e", "", "e, ee, s, es, psk; s, se, psk")), nil)
	mustModify(t, find(t, "N"), "psk0", named("Npsk0", made("", "s", "psk, e, es")), nil)
	mustModify(t, find(t, "N"), "psk1", named("Npsk1", made("", "s", "e, es, psk")), nil)
	long := begun(second, "e", "e", strings.Repeat("psk; ", 11)+"psk")
	want := copied(long)
	want.Name += "psk9+psk10+psk12"
	for _, n := range []int{9, 10, 12} {
		want.Lines[n-1].Tokens = append(want.Lines[n-1].Tokens, psk)
	}
	mustModify(t, long, "psk9 psk10 psk12", want, nil)
	mustModify(t, long, "psk10 psk9", api.Pattern{}, api.ErrArg)
	mustModify(t, long, "psk13", api.Pattern{}, api.ErrArg)
}

// P15.6: psk words that may not stand.
func TestNoPSKs(t *testing.T) {
	for _, words := range []string{
		"psk3", "psk4", "psk10", "psk20", "psk256", "psk4294967296", "psk4294967297", "psk9223372036854775807", "psk9223372036854775808",
		"psk18446744073709551616", "psk18446744073709551617", "psk" + strings.Repeat("9", 10000), "psk1" + strings.Repeat("0", 10000),
		"psk0 psk0", "psk1 psk1", "psk2 psk2", "psk1 psk0", "psk2 psk1", "psk0 psk2 psk1", "psk0 psk1 psk0", "psk0 psk1 psk2 psk2", "psk0 psk1 psk2 psk3", "psk2 psk0",
		"psk00", "psk01", "psk02", "psk001", "psk" + strings.Repeat("0", 10000), "psk" + strings.Repeat("0", 100) + "1",
		"psk", "psk-0", "psk-1", "psk+0", "psk+1", "psk1.", "psk1.0", "psk1e0", "psk0x1", "psk1_", "psk_1", "psk1a", "psk1,", "psk１", "psk٢", "psk\x001", "psk1\x00",
		"psk/", "psk:", "psk1/", "psk1:", "PSK0", "Psk0", "psK0", "sk0", "ps0", "p", "0", "1", "pskpsk0", "psk0psk1", "psk0+psk1", "+psk0", "psk0+", "apsk0",
		"fallbackpsk0", "e", "NN", "nothing", "é", "\xff", "psk0 nothing", "nothing psk0", "psk0 psk", "psk0 psk01",
	} {
		mustModify(t, find(t, "NN"), words, api.Pattern{}, api.ErrArg)
	}
	for _, list := range [][]string{{""}, {" "}, {" psk0"}, {"psk0 "}, {"psk 0"}, {"psk0\n"}, {"psk0", ""}, {"", "psk0"}, {"fallback", ""}, {"fallback "}, {"psk0", "psk1 "}, {"psk0\x00"}} {
		if err := mustModel(t, find(t, "NN"), list...); err != api.ErrArg {
			t.Errorf("%q: %v", list, err)
		}
	}
	mustModify(t, find(t, "XX"), "psk3", named("XXpsk3", made("", "", "e; e, ee, s, es; s, se, psk")), nil)
	mustModify(t, find(t, "XX"), "fallback psk3", api.Pattern{}, api.ErrArg)
	mustModify(t, find(t, "XX"), "fallback psk0 psk0", api.Pattern{}, api.ErrArg)
	many := slices.Repeat([]string{"psk0"}, 1<<16)
	if err := mustModel(t, find(t, "XX"), many...); err != api.ErrArg {
		t.Errorf("very many words: %v", err)
	}
}

// P15.6: the error of a pattern that is wrong ahead comes first, then ErrArg of a word, then the error of what has come.
func TestModifyOrder(t *testing.T) {
	for _, words := range []string{"", "psk0", "fallback", "nothing", "psk0 psk0", "psk99"} {
		mustModify(t, api.Pattern{}, words, api.Pattern{}, api.ErrInvalid)
		mustModify(t, made("", "", "e, e"), words, api.Pattern{}, api.ErrTwice)
		mustModify(t, made("e", "", "e; e"), words, api.Pattern{}, api.ErrTwice)
		mustModify(t, made("", "", "ee"), words, api.Pattern{}, api.ErrLacks)
		mustModify(t, made("", "", "psk"), words, api.Pattern{}, api.ErrUnsafe)
		mustModify(t, made("", "", "e"+strings.Repeat(", psk", 24)), words, api.Pattern{}, api.ErrInvalid)
	}
	full := made("", "", "e"+strings.Repeat(", psk", 23))
	mustModify(t, full, "psk0", api.Pattern{}, api.ErrInvalid)
	mustModify(t, full, "psk1", api.Pattern{}, api.ErrInvalid)
	mustModify(t, full, "psk1 psk2", api.Pattern{}, api.ErrArg)
	nearly := made("", "", "e"+strings.Repeat(", psk", 22))
	mustModify(t, nearly, "psk1", named("Ownpsk1", full), nil)
	mustModify(t, nearly, "psk0 psk1", api.Pattern{}, api.ErrInvalid)
	mustModify(t, nearly, "psk0 psk1 x", api.Pattern{}, api.ErrArg)
	only := made("", "", "s")
	mustModify(t, only, "psk0", api.Pattern{}, api.ErrUnsafe)
	mustModify(t, only, "psk1", api.Pattern{}, api.ErrUnsafe)
	mustModify(t, only, "psk1 psk1", api.Pattern{}, api.ErrArg)
	mustModify(t, made("", "", "e; s"), "psk2", api.Pattern{}, api.ErrUnsafe)
	mustModify(t, made("", "", "s; e; e"), "psk2", named("Ownpsk2", made("", "", "s; e, psk; e")), nil)
	mustModify(t, made("", "s", "e; e"), "fallback", named("Ownfallback", begun(second, "e", "s", "e")), nil)
	// What is left may be one-way, if it is the initiator's; then the responder need not be safe.
	mustModify(t, begun(second, "", "", "e; e, psk"), "fallback", named("Ownfallback", made("", "e", "e, psk")), nil)
	mustModify(t, begun(second, "", "", "s; e"), "fallback psk1", named("Ownfallback+psk1", made("", "s", "e, psk")), nil)
	mustModify(t, begun(second, "", "", "s; e; e"), "fallback psk1", named("Ownfallback+psk1", made("", "s", "e, psk; e")), nil)
	mustModify(t, made("", "", "s; e"), "fallback psk1", api.Pattern{}, api.ErrUnsafe)
}

// P15.6: the Name behind the words: the first one at once, each further one behind a plus; what has a word already gets none.
func TestModifyNames(t *testing.T) {
	for _, x := range []struct {
		name  string
		words []string
		want  string
	}{
		{"XX", nil, "XX"},
		{"", []string{"psk0"}, "psk0"},
		{"", []string{"fallback", "psk1"}, "fallback+psk1"},
		{"XX+", []string{"psk0"}, "XX+psk0"},
		{"a b\xff", []string{"psk0", "psk3"}, "a b\xffpsk0+psk3"},
		{"XXpsk0", []string{"psk1"}, "XXpsk0psk1"},
		{"XX", []string{"psk0", "psk1", "psk2", "psk3"}, "XXpsk0+psk1+psk2+psk3"},
	} {
		got, err := pattern.Modify(named(x.name, find(t, "XX")), x.words...)
		if err != nil || got.Name != x.want {
			t.Errorf("%q %q: %q, %v", x.name, x.words, got.Name, err)
		}
	}
	once, err := pattern.Modify(find(t, "XX"), "psk2")
	mustAnswer(t, "once", once, err, named("XXpsk2", made("", "", "e; e, ee, s, es, psk; s, se")), nil)
	twice, err := pattern.Modify(once, "psk2")
	mustAnswer(t, "and once more", twice, err, named("XXpsk2psk2", made("", "", "e; e, ee, s, es, psk, psk; s, se")), nil)
}

// P15.6: drawn patterns with drawn words, of which many may stand.
func TestDrawnWords(t *testing.T) {
	d := draw(19)
	choice := []string{"psk0", "psk1", "psk2", "psk3", "psk4", "psk5", "psk01", "psk", "fallback", "x"}
	patterns := pool(t)
	answers := map[error]int{}
	for i := range 40000 {
		p := patterns[d.below(len(patterns))]
		if i%2 == 0 {
			p = drawnPattern(&d)
		}
		var words []string
		if d.below(2) == 0 {
			words = []string{"fallback"}
		}
		for n := range choice {
			if d.below(3+n/2) == 0 {
				words = append(words, choice[n])
			}
		}
		answers[mustModel(t, p, words...)]++
	}
	counted(t, answers)
	if answers[api.ErrArg] < 50 {
		t.Errorf("%v", answers)
	}
}
