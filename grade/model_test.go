package grade_test

import (
	"slices"
	"strconv"
	"testing"

	"pintle/api"
	"pintle/pattern"
)

// message is who sends it, and all tokens that are done at it.
type message struct {
	from int
	done []int
}

// messagesOf are those of the Lines, and so many further ones.
func messagesOf(p api.Pattern, more int) []message {
	var all []message
	var done []int
	for _, line := range p.Lines {
		done = append(done, line.Tokens...)
		all = append(all, message{line.From, slices.Clone(done)})
	}
	for range more {
		from := second
		if isOneWay(p) || all[len(all)-1].from == second {
			from = first
		}
		all = append(all, message{from, done})
	}
	return all
}

func isOneWay(p api.Pattern) bool { return len(p.Lines) == 1 && p.Lines[0].From == first }

// secretOf is the token of that side's static key and the other side's ephemeral one: in its word the initiator's letter stands first.
func secretOf(side int) int {
	word := []byte("ee")
	word[side] = 's'
	return slices.Index(spelled[:], string(word))
}

func (m message) has(token int) bool { return slices.Contains(m.done, token) }

func (m message) source() int {
	if m.has(secretOf(m.from)) {
		return 2
	}
	if m.has(ss) {
		return 1
	}
	return 0
}

// dest is that of a message, asked anew of all that stand ahead of it.
func (m message) dest(ahead []message) int {
	thine := m.has(secretOf(1 - m.from))
	if !thine || !m.has(ee) {
		return map[[2]bool]int{{false, false}: 0, {false, true}: 1, {true, false}: 2}[[2]bool{thine, m.has(ee)}]
	}
	level := 3
	for _, one := range ahead {
		if one.from != m.from {
			level = max(level, 3+one.source())
		}
	}
	return level
}

// wanted are the Grades of a valid pattern.
func wanted(p api.Pattern, more int) []api.Grade {
	var grades []api.Grade
	all := messagesOf(p, more)
	for i, m := range all {
		grades = append(grades, api.Grade{From: m.from, Source: m.source(), Dest: m.dest(all[:i])})
	}
	return grades
}

// everyModified is each pattern of the table, without a word and with each list of words that may stand there.
func everyModified(t *testing.T) []api.Pattern {
	t.Helper()
	var all []api.Pattern
	add := func(p api.Pattern, ahead []string, messages int) {
		for chosen := range 1 << (messages + 1) {
			words := slices.Clone(ahead)
			for n := range messages + 1 {
				if chosen>>n&1 == 1 {
					words = append(words, "psk"+strconv.Itoa(n))
				}
			}
			q, err := pattern.Modify(p, words...)
			if err != nil {
				t.Fatalf("%s %q: %v", p.Name, words, err)
			}
			all = append(all, q)
		}
	}
	for p := range pattern.All() {
		add(p, nil, len(p.Lines))
		if _, err := pattern.Modify(p, "fallback"); err == nil {
			add(p, []string{"fallback"}, len(p.Lines)-1)
		}
	}
	if len(all) != 776 {
		t.Fatalf("%d patterns", len(all))
	}
	return all
}

// grow hands on each valid pattern that begins as p does and has so many tokens more at most; p's last Line has one already, if it has a Line.
func grow(p api.Pattern, room int, hand func(api.Pattern)) {
	if len(p.Lines) > 0 {
		switch pattern.Check(p) {
		case nil:
			hand(p)
		case api.ErrTwice, api.ErrLacks: // what offends so does it whatever comes behind
			return
		}
	}
	if room == 0 {
		return
	}
	for token := e; token <= psk; token++ {
		if n := len(p.Lines); n > 0 {
			q := p
			q.Lines = slices.Clone(p.Lines)
			q.Lines[n-1].Tokens = append(slices.Clone(p.Lines[n-1].Tokens), token)
			grow(q, room-1, hand)
		}
		for from := range 2 {
			if n := len(p.Lines); n == 0 || p.Lines[n-1].From != from {
				q := p
				q.Lines = append(slices.Clone(p.Lines), api.Line{From: from, Tokens: []int{token}})
				grow(q, room-1, hand)
			}
		}
	}
}

// eachSmall hands on every valid pattern of so many tokens at most, with all that can be known ahead.
func eachSmall(tokens int, hand func(api.Pattern)) {
	for _, i := range []string{"", "e", "s", "e, s"} {
		for _, r := range []string{"", "e", "s", "e, s"} {
			grow(api.Pattern{Name: "Own", Before: [2][]int{tokensOf(i), tokensOf(r)}}, tokens, hand)
		}
	}
}

// drawn is a valid pattern: tokens that offend nothing by themselves are laid one behind the other, until the whole is taken.
func drawn(d *draw) api.Pattern {
	keys := []string{"", "e", "s", "e, s"}
	for {
		p := api.Pattern{Name: "Own", Before: [2][]int{tokensOf(keys[d.below(4)]), tokensOf(keys[d.below(4)])}}
		p.Lines = []api.Line{{From: d.below(2), Tokens: []int{1 + d.below(7)}}}
		for range d.below(90) {
			q := extended(d, p)
			if err := pattern.Check(q); err == nil || err == api.ErrUnsafe {
				p = q
			}
		}
		if pattern.Check(p) == nil {
			return p
		}
	}
}

// extended is a pattern with one token more, in its last Line or in a new one.
func extended(d *draw, p api.Pattern) api.Pattern {
	q := p
	q.Lines = slices.Clone(p.Lines)
	last := &q.Lines[len(q.Lines)-1]
	token := 1 + d.below(7)
	if d.below(3) == 0 {
		q.Lines = append(q.Lines, api.Line{From: 1 - last.From, Tokens: []int{token}})
	} else {
		last.Tokens = append(slices.Clone(last.Tokens), token)
	}
	return q
}
