package pattern

import (
	"strings"

	"pintle/api"
)

// The parts of a text that hang on nothing.
const (
	nameEnd = ":\n"
	points  = "  ...\n"
	between = ", "
	rowEnd  = "\n"
)

// heads are the beginnings of rows, by the side that sends.
var heads = [2]string{"  -> ", "  <- "}

// tokenWords are by the token; the first one is no token's.
var tokenWords = [...]string{
	api.TokenE:   "e",
	api.TokenS:   "s",
	api.TokenEE:  "ee",
	api.TokenES:  "es",
	api.TokenSE:  "se",
	api.TokenSS:  "ss",
	api.TokenPSK: "psk",
}

// Print is the text of a pattern.
func Print(p api.Pattern) (string, error) {
	if err := Check(p); err != nil {
		return "", err
	}
	rows := written(p)
	if !isName(p.Name) || len(p.Name)+len(rows) > api.MaxText {
		return "", api.ErrText
	}
	return p.Name + rows, nil
}

// written is all of a text that comes behind the name.
func written(p api.Pattern) string {
	var b strings.Builder
	b.WriteString(nameEnd)
	for side, keys := range p.Before {
		if len(keys) > 0 {
			writeRow(&b, side, keys)
		}
	}
	if len(p.Before[api.Initiator])+len(p.Before[api.Responder]) > 0 {
		b.WriteString(points)
	}
	for _, line := range p.Lines {
		writeRow(&b, line.From, line.Tokens)
	}
	return b.String()
}

func writeRow(b *strings.Builder, from int, tokens []int) {
	b.WriteString(heads[from])
	for i, token := range tokens {
		if i > 0 {
			b.WriteString(between)
		}
		b.WriteString(tokenWords[token])
	}
	b.WriteString(rowEnd)
}

func isName(text string) bool { return text != "" && nameLength(text) == len(text) }

// nameLength is how many bytes at the beginning of a text may stand in a name.
func nameLength(text string) int {
	n := 0
	for n < len(text) && inName(text[n]) {
		n++
	}
	return n
}

func inName(b byte) bool {
	return 'A' <= b && b <= 'Z' || inWord(b) || '0' <= b && b <= '9' || b == '+'
}

func inWord(b byte) bool { return 'a' <= b && b <= 'z' }

// Parse reads a pattern's text.
func Parse(text string) (p api.Pattern, err error) {
	defer func() {
		if recover() != nil {
			p, err = api.Pattern{}, api.ErrText
		}
	}()
	if len(text) > api.MaxText {
		return api.Pattern{}, api.ErrText
	}
	read := reader{rest: text}
	p = read.pattern()
	if err := Check(p); err != nil {
		return api.Pattern{}, err
	}
	return p, nil
}

// reader goes through a text; where the text is not of the form, it panics, and Parse catches that.
type reader struct{ rest string }

func (r *reader) pattern() api.Pattern {
	name := r.name()
	r.want(nameEnd)
	rows, known := r.rows(), [2][]int{}
	if r.take(points) {
		known = knownOf(rows)
		rows = r.rows()
	}
	must(r.rest == "")
	return api.Pattern{Name: name, Before: known, Lines: rows}
}

func (r *reader) name() string {
	n := nameLength(r.rest)
	must(n > 0)
	name := strings.Clone(r.rest[:n]) // else it would keep the whole text
	r.rest = r.rest[n:]
	return name
}

// rows are all that follow one another from here on; there may be none.
func (r *reader) rows() []api.Line {
	var rows []api.Line
	for {
		switch {
		case r.take(heads[api.Initiator]):
			rows = append(rows, api.Line{From: api.Initiator, Tokens: r.tokens()})
		case r.take(heads[api.Responder]):
			rows = append(rows, api.Line{From: api.Responder, Tokens: r.tokens()})
		default:
			return rows
		}
	}
}

// tokens are those of one row, up to its end.
func (r *reader) tokens() []int {
	tokens := []int{r.token()}
	for r.take(between) {
		tokens = append(tokens, r.token())
	}
	r.want(rowEnd)
	return tokens
}

// token takes all letters that there are: a word is the beginning of others.
func (r *reader) token() int {
	n := 0
	for n < len(r.rest) && inWord(r.rest[n]) {
		n++
	}
	must(n > 0)
	token := tokenOf(r.rest[:n])
	r.rest = r.rest[n:]
	return token
}

func (r *reader) take(part string) bool {
	rest, ok := strings.CutPrefix(r.rest, part)
	r.rest = rest
	return ok
}

func (r *reader) want(part string) { must(r.take(part)) }

// knownOf is what the rows ahead of the points say: at most one of each side, the initiator's first.
func knownOf(rows []api.Line) (known [2][]int) {
	must(len(rows) > 0)
	for i, row := range rows {
		must(i == 0 || rows[i-1].From < row.From)
		known[row.From] = row.Tokens
	}
	return known
}

func tokenOf(word string) int {
	for token, other := range tokenWords {
		if word == other {
			return token
		}
	}
	panic(api.ErrText)
}

func must(is bool) {
	if !is {
		panic(api.ErrText)
	}
}
