package pattern

import (
	"slices"
	"strings"

	"pintle/api"
)

// Modify is a pattern with modifiers.
func Modify(p api.Pattern, words ...string) (api.Pattern, error) {
	if err := Check(p); err != nil {
		return api.Pattern{}, err
	}
	made, least := clone(p), 0
	for i, word := range words {
		ok := false
		if i == 0 && word == "fallback" {
			ok = fallBack(&made)
		} else {
			least, ok = layPSK(&made, word, least)
		}
		if !ok {
			return api.Pattern{}, api.ErrArg
		}
	}
	if err := Check(made); err != nil {
		return api.Pattern{}, err
	}
	made.Name = strings.Clone(p.Name + strings.Join(words, "+")) // without a word the sum is p's own Name
	return made, nil
}

func clone(p api.Pattern) api.Pattern {
	for side, keys := range p.Before {
		p.Before[side] = slices.Clone(keys)
	}
	p.Lines = slices.Clone(p.Lines)
	for i, line := range p.Lines {
		p.Lines[i].Tokens = slices.Clone(line.Tokens)
	}
	return p
}

// fallBack makes the first message known ahead, if it may. (Its sender cannot have known keys of it: a valid pattern sends no key twice.)
func fallBack(p *api.Pattern) bool {
	first := p.Lines[0]
	if !inOrder(first.Tokens) {
		return false
	}
	known := slices.Concat(p.Before[first.From], first.Tokens)
	slices.Sort(known)
	p.Before[first.From] = known
	p.Lines = p.Lines[1:]
	return true
}

// layPSK lays a token where a psk word says, if it may stand there; and it answers the least number that a further word may have.
func layPSK(p *api.Pattern, word string, least int) (int, bool) {
	n, ok := numberOf(word, len(p.Lines))
	if !ok || n < least || len(p.Lines) == 0 {
		return 0, false
	}
	if n == 0 {
		p.Lines[0].Tokens = slices.Insert(p.Lines[0].Tokens, 0, api.TokenPSK)
	} else {
		p.Lines[n-1].Tokens = append(p.Lines[n-1].Tokens, api.TokenPSK)
	}
	return n + 1, true
}

// numberOf is the number of a psk word, if it is one of 0 to most.
func numberOf(word string, most int) (int, bool) {
	digits, ok := strings.CutPrefix(word, "psk")
	if !ok || digits == "" || digits[0] == '0' && digits != "0" {
		return 0, false
	}
	n := 0
	for i := range len(digits) {
		if digits[i] < '0' || digits[i] > '9' {
			return 0, false
		}
		n = 10*n + int(digits[i]-'0')
		if n > most { // asked at each digit, so that very many of them do not wrap round
			return 0, false
		}
	}
	return n, true
}
