package pattern_test

import (
	"strings"
	"testing"

	"pintle/api"
	"pintle/pattern"
)

// offence is a pattern, from a side on, and what is the first thing to be told of it.
type offence struct {
	what           string
	side           int
	i, r, messages string
	want           error
}

func mustOffend(t *testing.T, all []offence) {
	t.Helper()
	for _, x := range all {
		p := begun(x.side, x.i, x.r, x.messages)
		if err := wanted(p); err != x.want {
			t.Fatalf("%s: the model answers %v", x.what, err)
		}
		mustCheck(t, x.what, p, x.want)
	}
}

// P15.1, 2: each way to offend one thing.
func TestOffences(t *testing.T) {
	mustOffend(t, []offence{
		{"e twice in a message", first, "", "", "e, e", api.ErrTwice},
		{"e twice of one side", first, "", "", "e; e, ee; e", api.ErrTwice},
		{"e of both sides", first, "", "", "e; e", nil},
		{"e known ahead", first, "e", "", "e", api.ErrTwice},
		{"e known ahead of the other", first, "", "e", "e", nil},
		{"the responder's e known ahead", second, "", "e", "e", api.ErrTwice},
		{"s twice", first, "", "", "s, s", api.ErrTwice},
		{"s of both sides", first, "", "", "s; s", nil},
		{"s known ahead", second, "", "s", "e, s", api.ErrTwice},
		{"s known ahead of the other", second, "s", "", "s", nil},
		{"ee twice", first, "e", "e", "ee, ee", api.ErrTwice},
		{"ee twice, of both sides", first, "e", "e", "ee; ee", api.ErrTwice},
		{"es twice", second, "e", "e, s", "ee, es; es", api.ErrTwice},
		{"se twice", first, "e, s", "e", "ee, se; psk; se", api.ErrTwice},
		{"ss twice", first, "e, s", "e, s", "ee, es, se, ss; ss", api.ErrTwice},
		{"psk twice", first, "e", "", "psk, psk", nil},
		{"ee without the initiator's e", second, "s", "e, s", "ee", api.ErrLacks},
		{"ee without the responder's e", first, "e, s", "s", "ee", api.ErrLacks},
		{"es without the initiator's e", second, "s", "e, s", "es", api.ErrLacks},
		{"es without the responder's s", first, "e, s", "e", "es", api.ErrLacks},
		{"se without the initiator's s", first, "e", "e, s", "se", api.ErrLacks},
		{"se without the responder's e", first, "e, s", "s", "se", api.ErrLacks},
		{"ss without the initiator's s", first, "e", "e, s", "ss", api.ErrLacks},
		{"ss without the responder's s", first, "e, s", "e", "ss", api.ErrLacks},
		{"a secret ahead of its key", first, "", "e", "ee, e", api.ErrLacks},
		{"a secret behind its key", first, "", "e", "e, ee", nil},
	})
}

// P15.1, 2: ErrUnsafe at an s and at the end of a message, each of the three reasons of each side, and what takes it away.
func TestUnsafe(t *testing.T) {
	mustOffend(t, []offence{
		{"initiator: psk, s", first, "", "", "psk, s, e", api.ErrUnsafe},
		{"initiator: psk, e, s", first, "", "", "psk, e, s", nil},
		{"initiator: e known ahead, psk, s", first, "e", "", "psk, s", nil},
		{"responder: psk, s", second, "e", "", "psk, s, e", api.ErrUnsafe},
		{"responder: psk, e, s", second, "e", "", "psk, e, s", nil},
		{"responder: the other's psk, s", first, "", "", "e, psk; s, e", api.ErrUnsafe},
		{"responder: the other's psk, e, s", first, "", "", "e, psk; e, s", nil},
		{"initiator: s itself does not count", first, "", "", "s", nil},
		{"initiator ends with psk", first, "", "", "psk", api.ErrUnsafe},
		{"initiator ends with psk, e known ahead", first, "e", "", "psk", nil},
		{"initiator ends with se", first, "e, s", "e", "se; ee", api.ErrUnsafe},
		{"initiator ends with se, ee", first, "e, s", "e", "se, ee", nil},
		{"initiator ends with ss", first, "e, s", "e, s", "ss; es, ee, se", api.ErrUnsafe},
		{"initiator ends with ss, es", first, "e, s", "s", "ss, es", nil},
		{"initiator ends with ss, se, ee", first, "e, s", "e, s", "ss, se, ee; es", api.ErrUnsafe},
		{"initiator ends with es", first, "e", "s", "es", nil},
		{"initiator ends with ss in a later message", first, "e, s", "s", "psk; e, ee, se; ss; es", api.ErrUnsafe},
		{"responder ends with es", second, "e", "e, s", "es; ee", api.ErrUnsafe},
		{"responder ends with es, ee", second, "e", "e, s", "es, ee", nil},
		{"responder ends with ss", second, "e, s", "e, s", "ss; se, ee, es", api.ErrUnsafe},
		{"responder ends with ss, es, ee", second, "e, s", "e, s", "ss, es, ee; se", api.ErrUnsafe},
		{"responder ends with ss, se, ee, es", second, "e, s", "e, s", "ss, se, ee, es", nil},
		{"responder ends with the other's es", first, "", "s", "e, es; e; ee", api.ErrUnsafe},
		{"responder ends with se alone", second, "e, s", "e", "se; ee", nil},
		{"responder ends behind the other's psk", first, "", "", "psk, e; s; e", api.ErrUnsafe},
		{"the initiator is not safe where the responder sends", first, "s", "", "e; e, se, s; ee, es", nil},
	})
}

// P15.1, 3: behind the last message both sides send, but of a one-way pattern, which the initiator alone begins.
func TestUnsafeBehind(t *testing.T) {
	mustOffend(t, []offence{
		{"one-way: es", first, "", "s", "e, es", nil},
		{"one-way: es, ss", first, "s", "s", "e, es, ss", nil},
		{"one-way: psk", first, "", "", "e, psk", nil},
		{"the responder's only message: se", second, "e, s", "", "e, se", api.ErrUnsafe},
		{"the responder's only message: se, ee", second, "e, s", "", "e, se, ee", nil},
		{"the responder's only message: psk", second, "", "", "e, psk", api.ErrUnsafe},
		{"the responder's only message: psk, the other's e known ahead", second, "e", "", "e, psk", nil},
		{"the responder's only message: ss, se, ee", second, "e, s", "e, s", "ss, se, ee", api.ErrUnsafe},
		{"the responder's only message: ss, se, ee, es", second, "e, s", "e, s", "ss, se, ee, es", nil},
		{"the initiator behind the responder's se", first, "s", "", "e; e, se", api.ErrUnsafe},
		{"the initiator behind the responder's ss", first, "s", "s", "e; e, ee, se, ss", api.ErrUnsafe},
		{"the initiator behind the responder's ss, es", first, "s", "s", "e; e, ee, se, ss, es", nil},
		{"the initiator behind the responder's psk", first, "", "", "s; e, psk", api.ErrUnsafe},
		{"the responder behind the initiator's es alone", second, "", "e, s", "psk; e, es", api.ErrUnsafe},
		{"the responder behind the initiator's es, ee", second, "", "e, s", "psk; e, es, ee", nil},
		{"the responder behind the initiator's ss", second, "s", "e, s", "psk; e, es, ee, ss", api.ErrUnsafe},
		{"the responder behind the initiator's ss, se", second, "s", "e, s", "psk; e, es, ee, ss, se", nil},
		{"the responder behind the initiator's psk", second, "", "", "s; e, psk", api.ErrUnsafe},
	})
}

// P15.1: a token that offends two things, and two tokens that offend: the first.
func TestFirstOffence(t *testing.T) {
	mustOffend(t, []offence{
		{"an s that is twice and unsafe", first, "s", "", "psk, s", api.ErrTwice},
		{"an s that is twice and unsafe, in a later message", first, "", "s", "e, es; s", api.ErrTwice},
		{"a secret that is twice, at an unsafe end", first, "", "s", "e, es; es", api.ErrTwice},
		{"a secret that lacks, at an unsafe end", first, "", "", "psk, ee", api.ErrLacks},
		{"an e that is twice, at an unsafe end", first, "e, s", "e", "se, e", api.ErrTwice},
		{"an s that is unsafe twice", first, "", "", "psk, s", api.ErrUnsafe},
		{"twice ahead of lacks", first, "", "", "e, e, ee", api.ErrTwice},
		{"lacks ahead of twice", first, "", "", "ee, e, e", api.ErrLacks},
		{"unsafe ahead of twice", first, "", "", "psk, s, e, e", api.ErrUnsafe},
		{"unsafe ahead of lacks", first, "", "", "psk, s, e, ee", api.ErrUnsafe},
		{"twice ahead of unsafe", first, "", "", "e, e; psk", api.ErrTwice},
		{"lacks ahead of unsafe", first, "", "", "es, psk, s", api.ErrLacks},
		{"unsafe at an end ahead of twice", first, "", "", "psk; e, e", api.ErrUnsafe},
		{"unsafe at an end ahead of lacks", first, "", "", "psk; ee", api.ErrUnsafe},
		{"twice ahead of unsafe behind all", first, "s", "", "e; e, se, e", api.ErrTwice},
		{"lacks ahead of unsafe behind all", first, "s", "", "e; e, se, es", api.ErrLacks},
	})
}

// P15.1: the Name is not looked at.
func TestNameIsNotChecked(t *testing.T) {
	for _, name := range []string{"", "X", "a b", "é", "\xff\x00:\n", "fallback", strings.Repeat("+", 5000)} {
		for _, p := range pool(t) {
			mustCheck(t, "another name", named(name, p), nil)
		}
		mustCheck(t, "another name", named(name, made("", "", "e, e")), api.ErrTwice)
		mustCheck(t, "another name", named(name, api.Pattern{}), api.ErrInvalid)
	}
}

// aheads are all lists that may be known ahead.
func aheads() [][]int { return [][]int{nil, {e}, {s}, {e, s}} }

// cut is tokens as messages by turns, a new one behind each token whose bit is set.
func cut(side int, tokens []int, bits int) []api.Line {
	lines := []api.Line{{From: side}}
	for i, token := range tokens {
		last := &lines[len(lines)-1]
		last.Tokens = append(last.Tokens, token)
		if bits>>i&1 == 1 {
			lines = append(lines, api.Line{From: 1 - last.From})
		}
	}
	return lines
}

// counted asks that each answer came often: else what was asked would say little.
func counted(t *testing.T, answers map[error]int) {
	t.Helper()
	for _, err := range []error{nil, api.ErrInvalid, api.ErrTwice, api.ErrLacks, api.ErrUnsafe} {
		if answers[err] < 50 {
			t.Errorf("%v came %d times", err, answers[err])
		}
	}
}

// P15.1: every pattern of one to four tokens, cut into messages in every way, with all that may be known ahead; of those of up to three also such as are of no token, or end with an empty message.
func TestSmallPatterns(t *testing.T) {
	answers := map[error]int{}
	try := func(side int, known [2][]int, tokens []int, cuts int) {
		for bits := range cuts {
			p := api.Pattern{Before: known, Lines: cut(side, tokens, bits)}
			want := wanted(p)
			answers[want]++
			mustCheck(t, "a small one", p, want)
		}
	}
	for _, i := range aheads() {
		for _, r := range aheads() {
			known := [2][]int{i, r}
			for side := range 2 {
				for size := 1; size < 4; size++ {
					eachList(size, 0, 8, func(tokens []int) { try(side, known, tokens, 1<<size) })
				}
				eachList(4, 1, 7, func(tokens []int) { try(side, known, tokens, 8) })
			}
		}
	}
	counted(t, answers)
}

// eachList goes through all lists of so many numbers, from least to most.
func eachList(size, least, most int, use func([]int)) {
	list := make([]int, size)
	var fill func(at int)
	fill = func(at int) {
		if at == size {
			use(list)
			return
		}
		for list[at] = least; list[at] <= most; list[at]++ {
			fill(at + 1)
		}
	}
	fill(0)
}

// P15.1: drawn patterns of up to 26 tokens; a token that would offend is mostly drawn again, so that many go far.
func TestDrawnPatterns(t *testing.T) {
	d := draw(15)
	answers := map[error]int{}
	for range 60000 {
		p := drawnPattern(&d)
		want := wanted(p)
		answers[want]++
		mustCheck(t, "a drawn one", p, want)
	}
	counted(t, answers)
}

func drawnPattern(d *draw) api.Pattern {
	p := api.Pattern{Before: [2][]int{aheads()[d.below(4)], aheads()[d.below(4)]}}
	lines := []api.Line{{From: d.below(2)}}
	var stood []placed
	for range 1 + d.below(26) {
		last := &lines[len(lines)-1]
		if len(last.Tokens) > 0 && d.below(3) == 0 {
			lines = append(lines, api.Line{From: 1 - last.From})
			last = &lines[len(lines)-1]
		}
		token := 1 + d.below(7)
		for range 20 {
			if d.below(50) == 0 || !isTwice(p, stood, last.From, token) && !isLacking(p, stood, token) {
				break
			}
			token = 1 + d.below(7)
		}
		last.Tokens = append(last.Tokens, token)
		stood = append(stood, placed{last.From, token})
	}
	p.Lines = lines
	return p
}

// P15.1: two calls answer alike, and one does not show in another.
func TestCheckTwice(t *testing.T) {
	d := draw(16)
	for range 1000 {
		p, q := drawnPattern(&d), drawnPattern(&d)
		want := pattern.Check(p)
		pattern.Check(q)
		mustCheck(t, "once more", p, want)
	}
}
