package pattern_test

import (
	"slices"
	"strconv"
	"strings"
	"testing"

	"pintle/api"
	"pintle/pattern"
)

const example = "IKpsk2:\n  <- s\n  ...\n  -> e, es, s, ss\n  <- e, ee, se, psk\n"

// mustParse holds Parse against the model.
func mustParse(t *testing.T, text string) {
	t.Helper()
	got, err := pattern.Parse(text)
	want, wantErr := wantedOf(text)
	mustAnswer(t, "Parse of "+strconv.Quote(text), got, err, want, wantErr)
}

// mustError asks for an error of both, of Parse and of the model.
func mustError(t *testing.T, text string, want error) {
	t.Helper()
	got, err := pattern.Parse(text)
	mustAnswer(t, "Parse of "+strconv.Quote(text), got, err, api.Pattern{}, want)
	if _, err := wantedOf(text); err != want {
		t.Fatalf("%q: the model answers %v, not %v", text, err, want)
	}
}

// texts are of all patterns of the pool, and of some with modifiers.
func texts(t *testing.T) []string {
	t.Helper()
	all := []string{example}
	for _, p := range pool(t) {
		text, err := pattern.Print(p)
		if err != nil {
			t.Fatal(err)
		}
		all = append(all, text)
	}
	for _, name := range []string{"NN", "XX", "KX1", "I1X1"} {
		p, err := pattern.Modify(find(t, name), "fallback", "psk0")
		mustCheck(t, "modified", p, err)
		all = append(all, textOf(p))
	}
	return all
}

// P15.4: the examples of the document, and each text that Print writes.
func TestParse(t *testing.T) {
	got, err := pattern.Parse(example)
	mustAnswer(t, "the example", got, err, named("IKpsk2", made("", "s", "e, es, s, ss; e, ee, se, psk")), nil)
	mustPrint(t, "and back", got, example, nil)
	mustError(t, example[:len(example)-1], api.ErrText)
	for at := range len(example) + 1 {
		mustParse(t, example[:at]+" "+example[at:])
	}
	mustError(t, strings.Replace(example, "e, es", "e,  es", 1), api.ErrText)
	mustError(t, strings.Replace(example, "e, es", "es, e", 1), api.ErrLacks)
	for _, p := range pool(t) {
		text, err := pattern.Print(p)
		mustCheck(t, "the pool", p, err)
		got, err := pattern.Parse(text)
		mustAnswer(t, text, got, err, p, nil)
	}
}

// P15.4: what is known ahead: a row of each side at most, the initiator's first, and one at least where the points are.
func TestParseAhead(t *testing.T) {
	for _, x := range []struct {
		text string
		want error
	}{
		{"X:\n  -> e\n  ...\n  -> s\n", nil},
		{"X:\n  <- e\n  ...\n  -> s\n", nil},
		{"X:\n  -> e\n  <- e\n  ...\n  -> s\n", nil},
		{"X:\n  -> e, s\n  <- e, s\n  ...\n  -> ee, es\n  <- se\n", nil},
		{"X:\n  <- e\n  -> e\n  ...\n  -> s\n", api.ErrText},
		{"X:\n  -> e\n  -> s\n  ...\n  -> psk\n", api.ErrText},
		{"X:\n  <- e\n  <- s\n  ...\n  -> e\n", api.ErrText},
		{"X:\n  -> s\n  -> s\n  ...\n  -> e\n", api.ErrText},
		{"X:\n  -> e\n  <- e\n  <- s\n  ...\n  -> s\n", api.ErrText},
		{"X:\n  -> e\n  <- e\n  -> s\n  ...\n  -> s\n", api.ErrText},
		{"X:\n  -> e\n  -> e\n  <- e\n  ...\n  -> s\n", api.ErrText},
		{"X:\n  ...\n  -> e\n", api.ErrText},
		{"X:\n  ...\n", api.ErrText},
		{"X:\n  -> s\n  ...\n  ...\n  -> e\n", api.ErrText},
		{"X:\n  -> s\n  ...\n  -> e\n  ...\n", api.ErrText},
		{"X:\n  -> s\n  ...\n  -> e\n  ...\n  -> psk\n", api.ErrText},
		{"X:\n  -> s\n ...\n  -> e\n", api.ErrText},
		{"X:\n  -> s\n  ....\n  -> e\n", api.ErrText},
		{"X:\n  -> s\n  ..\n  -> e\n", api.ErrText},
		{"X:\n  -> s\n  ...\n", api.ErrInvalid},
		{"X:\n  -> s\n  <- s\n  ...\n", api.ErrInvalid},
		{"X:\n  -> s, e\n  ...\n  -> psk\n", api.ErrInvalid},
		{"X:\n  -> e, e\n  ...\n  -> s\n", api.ErrInvalid},
		{"X:\n  -> e, s, e\n  ...\n  -> psk\n", api.ErrInvalid},
		{"X:\n  <- ee\n  ...\n  -> e\n", api.ErrInvalid},
		{"X:\n  <- s, psk\n  ...\n  -> e\n", api.ErrInvalid},
		{"X:\n  <- x\n  ...\n  -> e\n", api.ErrText},
		{"X:\n  <- \n  ...\n  -> e\n", api.ErrText},
		{"X:\n  -> s\n  ...\n  -> s\n", api.ErrTwice},
	} {
		if x.want != nil {
			mustError(t, x.text, x.want)
		}
		mustParse(t, x.text)
		if _, err := pattern.Parse(x.text); err != x.want {
			t.Errorf("%q: %v", x.text, err)
		}
	}
}

// P15.4: a text of the form whose pattern is not valid has the error of Check.
func TestParseOfInvalid(t *testing.T) {
	for text, want := range map[string]error{
		"X:\n":                                                        api.ErrInvalid,
		"X:\n  -> e\n  -> s\n":                                        api.ErrInvalid,
		"X:\n  <- e\n  <- s\n":                                        api.ErrInvalid,
		"X:\n  -> e\n  <- e\n  <- ee\n":                               api.ErrInvalid,
		"X:\n  -> e\n  -> e, e, ee\n":                                 api.ErrInvalid,
		"X:\n  -> e, e\n":                                             api.ErrTwice,
		"X:\n  -> e, ee\n":                                            api.ErrLacks,
		"X:\n  -> psk, s, e\n":                                        api.ErrUnsafe,
		"X:\n  <- e, psk\n":                                           api.ErrUnsafe,
		"X:\n  -> e\n  <- e, ee, e, s\n":                              api.ErrTwice,
		"X:\n  -> e" + strings.Repeat(", psk", 24) + "\n":             api.ErrInvalid,
		"X:\n  -> e" + strings.Repeat(", psk", 800) + "\n":            api.ErrInvalid,
		"X:\n" + strings.Repeat("  -> e\n", 580):                      api.ErrInvalid,
		"X:\n" + strings.Repeat("  -> e\n  <- e\n", 280):              api.ErrInvalid,
		"X:\n  -> e, s\n  ...\n" + strings.Repeat("  -> psk\n", 12):   api.ErrInvalid,
		"X:\n  -> psk" + strings.Repeat(", e, s, ee, es, se, ss", 40): api.ErrText,
	} {
		mustError(t, text, want)
	}
	mustParse(t, "X:\n  -> e"+strings.Repeat(", psk", 23)+"\n")
}

// P15.2, P15.4: parts that are nearly those of the form.
func TestParseOfNearly(t *testing.T) {
	for _, text := range []string{"", "\n", ":", ":\n", "X", "X:", "X\n", "X: \n", "X:\r\n", " X:\n  -> e\n", "X :\n  -> e\n", "X:  -> e\n", ":\n  -> e\n",
		"X:\n\n  -> e\n", "X:\n  -> e\n\n", "X:\n  -> e\n ", "X:\n  -> e\nX", "X:\n  -> e\nX:\n  -> e\n", "X:\n  -> e", "X:\n  -> e \n", "X:\n  -> e,\n",
		"X:\n  -> e, \n", "X:\n  -> ,e\n", "X:\n  -> , e\n", "X:\n  -> e,s\n", "X:\n  -> e s\n", "X:\n  -> e  s\n", "X:\n  -> e ,s\n", "X:\n  -> e;s\n",
		"X:\n  -> e,\n  s\n", "X:\n  ->e\n", "X:\n  ->\n", "X:\n  -> \n", "X:\n  ->  e\n", "X:\n -> e\n", "X:\n-> e\n", "X:\n   -> e\n", "X:\n\t-> e\n",
		"X:\n  => e\n", "X:\n  > e\n", "X:\n  - e\n", "X:\n  <> e\n", "X:\n  <-> e\n", "X:\n  -> E\n", "X:\n  -> eé\n", "X:\n  -> é\n", "X:\n  -> e1\n",
		"X:\n  -> e\x00\n", "X:\n  -> ps\n", "X:\n  -> pskk\n", "X:\n  -> psk0\n", "X:\n  -> eee\n", "X:\n  -> ese\n", "X:\n  -> sss\n", "X:\n  -> p\n",
		"X:\n  -> e, k\n", "X:\n  -> token\n", "X:\n  -> e\r\n", "X:\r  -> e\r", "X:\n  → e\n", "X_Y:\n  -> e\n", "XÉ:\n  -> e\n", "X::\n  -> e\n",
		"X:\n...\n  -> e\n", "X:\n  -> s\n  ... \n  -> e\n", "X:\n  -> s\n...\n  -> e\n", "X:\n  -> s\n  …\n  -> e\n", "\xef\xbb\xbfX:\n  -> e\n"} {
		mustError(t, text, api.ErrText)
	}
	for _, text := range []string{"X:\n  -> e\n", "+:\n  -> e\n", "0:\n  <- s\n", "XX:\n  -> e, s\n", "psk:\n  -> e, psk\n"} {
		mustParse(t, text)
		if _, err := pattern.Parse(text); err != nil {
			t.Errorf("%q: %v", text, err)
		}
	}
}

// P15.4: texts of MaxText bytes, of one more and of many more, with long names and with long rows.
func TestParseOfLong(t *testing.T) {
	for _, text := range texts(t) {
		for more := -2; more < 4; more++ {
			long := strings.Repeat("X", api.MaxText-len(text)+more) + text
			got, err := pattern.Parse(long)
			if more > 0 {
				mustAnswer(t, "too long", got, err, api.Pattern{}, api.ErrText)
				continue
			}
			want, _ := wantedOf(text)
			mustAnswer(t, "long", got, err, named(long[:strings.Index(long, ":")], want), nil)
		}
	}
	row := "  -> e" + strings.Repeat(", e", 10) + "\n"
	for more := -1; more < 2; more++ {
		text := "X:\n" + strings.Repeat(row, 100)
		text = strings.Repeat("X", api.MaxText-len(text)+more) + text
		if more > 0 {
			mustError(t, text, api.ErrText)
		} else {
			mustError(t, text, api.ErrInvalid)
		}
	}
	for _, part := range []string{"X", "X:\n", "  -> e\n", "\x00", " ", example} {
		got, err := pattern.Parse(strings.Repeat(part, 1<<20/len(part)))
		mustAnswer(t, "very long", got, err, api.Pattern{}, api.ErrText)
	}
}

// P15.4: each text with a byte less, a byte more and a byte changed, at every place.
func TestParseOfChanged(t *testing.T) {
	bytes := []string{" ", "\n", ",", ".", ":", "-", "<", ">", "+", "e", "s", "p", "k", "X", "7", "\x00", "\xff", "\r"}
	for _, text := range texts(t) {
		if len(text) > 200 {
			continue // the same rows, many times
		}
		for at := range len(text) + 1 {
			for _, b := range bytes {
				mustParse(t, text[:at]+b+text[at:])
			}
			if at == len(text) {
				break
			}
			mustParse(t, text[:at]+text[at+1:])
			mustParse(t, text[:at])
			mustParse(t, text[at:])
			for _, b := range bytes {
				mustParse(t, text[:at]+b+text[at+1:])
			}
		}
	}
	for at := range len(example) {
		for b := range 256 {
			mustParse(t, example[:at]+string([]byte{byte(b)})+example[at+1:])
			mustParse(t, example[:at]+string([]byte{byte(b)})+example[at:])
		}
	}
}

// P15.4: each text with a row less, a row twice and two rows the other way round.
func TestParseOfOtherRows(t *testing.T) {
	for _, text := range texts(t) {
		rows := slices.Collect(strings.Lines(text))
		for i := range rows {
			mustParse(t, strings.Join(slices.Delete(slices.Clone(rows), i, i+1), ""))
			for j := range rows {
				mustParse(t, strings.Join(slices.Insert(slices.Clone(rows), j, rows[i]), ""))
				other := slices.Clone(rows)
				other[i], other[j] = other[j], other[i]
				mustParse(t, strings.Join(other, ""))
			}
		}
	}
}

// P15.4, W1: any bytes, and any parts of texts in a row, of which many are of the form.
func TestParseOfAny(t *testing.T) {
	d := draw(18)
	for range 3000 {
		list := make([]byte, d.below(80))
		for i := range list {
			list[i] = byte(d.below(256))
		}
		mustParse(t, string(list))
		mustParse(t, "X:\n"+string(list))
	}
	right := 0
	for range 40000 {
		text := drawnText(&d)
		mustParse(t, text)
		if textForm.MatchString(text) {
			right++
		}
	}
	if right < 1000 || right > 39000 {
		t.Errorf("%d texts are of the form", right)
	}
}

// drawnText is mostly made of whole rows.
func drawnText(d *draw) string {
	parts := []string{"X", ":", "\n", "  -> ", "  <- ", ", ", "  ...\n", "e", "s", "ee", "psk", "..", " "}
	text := []string{"X:\n", "XXpsk0+psk1:\n", ":\n"}[d.below(21)/10]
	for range d.below(6) {
		switch d.below(12) {
		case 0:
			text += parts[d.below(len(parts))]
		case 1, 2:
			text += "  ...\n"
		default:
			text += []string{"  -> ", "  <- "}[d.below(2)] + spelled[1+d.below(7)]
			for range d.below(4) {
				text += ", " + spelled[1+d.below(7)]
			}
			text += "\n"
		}
	}
	return text
}
