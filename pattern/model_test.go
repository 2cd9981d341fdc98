package pattern_test

import (
	"fmt"
	"math/big"
	"regexp"
	"slices"
	"strings"

	"pintle/api"
)

// placed is a token that stood, and who sent it.
type placed struct{ from, token int }

var spelled = [...]string{"", "e", "s", "ee", "es", "se", "ss", "psk"}

// wanted is what Check is to answer, asked anew at each token of all that stood ahead of it.
func wanted(p api.Pattern) error {
	if !hasShape(p) {
		return api.ErrInvalid
	}
	var stood []placed
	for _, line := range p.Lines {
		for i, token := range line.Tokens {
			next := append(stood, placed{line.From, token})
			switch {
			case isTwice(p, stood, line.From, token):
				return api.ErrTwice
			case isLacking(p, stood, token):
				return api.ErrLacks
			case token == s && !isSafe(p, stood, line.From):
				return api.ErrUnsafe
			case i == len(line.Tokens)-1 && !isSafe(p, next, line.From):
				return api.ErrUnsafe
			}
			stood = next
		}
	}
	for side := range 2 {
		silent := side == second && len(p.Lines) == 1 && p.Lines[0].From == first
		if !silent && !isSafe(p, stood, side) {
			return api.ErrUnsafe
		}
	}
	return nil
}

func hasShape(p api.Pattern) bool {
	for _, keys := range p.Before {
		if !slices.Contains([]string{"[]", "[1]", "[2]", "[1 2]"}, fmt.Sprint(keys)) {
			return false
		}
	}
	var tokens []int
	for i, line := range p.Lines {
		if line.From*line.From != line.From || i > 0 && line.From+p.Lines[i-1].From != 1 || len(line.Tokens) == 0 {
			return false
		}
		tokens = append(tokens, line.Tokens...)
	}
	return len(p.Lines) > 0 && len(tokens) <= 24 && slices.Min(tokens) >= 1 && slices.Max(tokens) <= 7
}

func hasStood(stood []placed, token int) bool {
	return slices.ContainsFunc(stood, func(one placed) bool { return one.token == token })
}

func hasKey(p api.Pattern, stood []placed, side, key int) bool {
	return slices.Contains(p.Before[side], key) || slices.Contains(stood, placed{side, key})
}

func isTwice(p api.Pattern, stood []placed, from, token int) bool {
	if token == e || token == s {
		return hasKey(p, stood, from, token)
	}
	return token != psk && hasStood(stood, token)
}

// isLacking goes by the letters of the word: the first is the initiator's key, the second the responder's.
func isLacking(p api.Pattern, stood []placed, token int) bool {
	word := spelled[token]
	if len(word) != 2 {
		return false
	}
	return !hasKey(p, stood, first, tokenNamed(word[:1])) || !hasKey(p, stood, second, tokenNamed(word[1:]))
}

func isSafe(p api.Pattern, stood []placed, side int) bool {
	only := func(token int, with bool) bool { return with || !hasStood(stood, token) }
	shared := only(psk, hasKey(p, stood, side, e))
	if side == first {
		return shared && only(se, hasStood(stood, ee)) && only(ss, hasStood(stood, es))
	}
	return shared && only(es, hasStood(stood, ee)) && only(ss, hasStood(stood, se))
}

// textOf is the text of a pattern of any kind, also of one that is not valid.
func textOf(p api.Pattern) string {
	row := func(from int, tokens []int) string {
		var words []string
		for _, token := range tokens {
			words = append(words, spelled[token])
		}
		return fmt.Sprintf("  %s %s\n", []string{"->", "<-"}[from], strings.Join(words, ", "))
	}
	text := p.Name + ":\n"
	for side := range 2 {
		if len(p.Before[side]) > 0 {
			text += row(side, p.Before[side])
		}
	}
	if len(p.Before[0]) > 0 || len(p.Before[1]) > 0 {
		text += "  ...\n"
	}
	for _, line := range p.Lines {
		text += row(line.From, line.Tokens)
	}
	return text
}

var nameForm = regexp.MustCompile(`\A[A-Za-z0-9+]+\z`)

// textForm has the name, the rows ahead and the rows of the messages.
var textForm = regexp.MustCompile(strings.ReplaceAll(
	`\A([A-Za-z0-9+]+):\n(?:(  -> T\n|  -> T\n  <- T\n|  <- T\n)  \.\.\.\n)?((?:  -> T\n|  <- T\n)*)\z`,
	"T", `(?:e|s|ee|es|se|ss|psk)(?:, (?:e|s|ee|es|se|ss|psk))*`))

// wantedOf is what Parse is to answer.
func wantedOf(text string) (api.Pattern, error) {
	parts := textForm.FindStringSubmatch(text)
	if len(text) > 4096 || parts == nil {
		return api.Pattern{}, api.ErrText
	}
	p := api.Pattern{Name: parts[1], Lines: rowsOf(parts[3])}
	for _, row := range rowsOf(parts[2]) {
		p.Before[row.From] = row.Tokens
	}
	return p, wanted(p)
}

func rowsOf(text string) []api.Line {
	var lines []api.Line
	for row := range strings.Lines(text) {
		from := map[string]int{"->": first, "<-": second}[row[2:4]]
		lines = append(lines, api.Line{From: from, Tokens: tokensOf(strings.TrimSuffix(row[5:], "\n"))})
	}
	return lines
}

var pskForm = regexp.MustCompile(`\Apsk(0|[1-9][0-9]*)\z`)

// modified is what Modify is to answer.
func modified(p api.Pattern, words ...string) (api.Pattern, error) {
	if err := wanted(p); err != nil {
		return api.Pattern{}, err
	}
	out := copied(p)
	last := big.NewInt(-1)
	for i, word := range words {
		switch {
		case i == 0 && word == "fallback" && fallsBack(out):
			out = fallenBack(out)
		case pskForm.MatchString(word):
			number, _ := new(big.Int).SetString(word[3:], 10)
			if number.Cmp(last) <= 0 || number.Cmp(big.NewInt(int64(len(out.Lines)))) > 0 || len(out.Lines) == 0 {
				return api.Pattern{}, api.ErrArg
			}
			last = number
			out = preshared(out, int(number.Int64()))
		default:
			return api.Pattern{}, api.ErrArg
		}
		if i > 0 {
			out.Name += "+"
		}
		out.Name += word
	}
	return out, wanted(out)
}

func fallsBack(p api.Pattern) bool {
	line := p.Lines[0]
	for _, token := range line.Tokens {
		if slices.Contains(p.Before[line.From], token) {
			return false
		}
	}
	return slices.Contains([]string{"[1]", "[2]", "[1 2]"}, fmt.Sprint(line.Tokens))
}

func fallenBack(p api.Pattern) api.Pattern {
	out := api.Pattern{Name: p.Name, Before: p.Before, Lines: p.Lines[1:]}
	from := p.Lines[0].From
	var keys []int
	for _, key := range []int{e, s} {
		if slices.Contains(p.Before[from], key) || slices.Contains(p.Lines[0].Tokens, key) {
			keys = append(keys, key)
		}
	}
	out.Before[from] = keys
	return out
}

func preshared(p api.Pattern, number int) api.Pattern {
	out := copied(p)
	if number == 0 {
		out.Lines[0].Tokens = append([]int{psk}, out.Lines[0].Tokens...)
	} else {
		out.Lines[number-1].Tokens = append(out.Lines[number-1].Tokens, psk)
	}
	return out
}
