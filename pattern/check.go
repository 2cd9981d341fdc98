package pattern

import "pintle/api"

// What can stand at a place of a pattern: the keys that each side has, and what is mixed in.
const (
	initiatorE = iota
	initiatorS
	responderE
	responderS
	mixedEE
	mixedES
	mixedSE
	mixedSS
	mixedPSK
	marks
)

// row is what stands at a place of a pattern, a flag for each mark.
type row [marks]bool

// rule is what a token wants of the row at its place, and the mark that it leaves there.
type rule struct {
	leaves [2]int // by its sender
	once   bool   // its mark may not stand already
	wants  row
}

// rules are by the token.
var rules = [...]rule{
	api.TokenE:   {leaves: [2]int{initiatorE, responderE}, once: true},
	api.TokenS:   {leaves: [2]int{initiatorS, responderS}, once: true},
	api.TokenEE:  {leaves: [2]int{mixedEE, mixedEE}, once: true, wants: row{initiatorE: true, responderE: true}},
	api.TokenES:  {leaves: [2]int{mixedES, mixedES}, once: true, wants: row{initiatorE: true, responderS: true}},
	api.TokenSE:  {leaves: [2]int{mixedSE, mixedSE}, once: true, wants: row{initiatorS: true, responderE: true}},
	api.TokenSS:  {leaves: [2]int{mixedSS, mixedSS}, once: true, wants: row{initiatorS: true, responderS: true}},
	api.TokenPSK: {leaves: [2]int{mixedPSK, mixedPSK}},
}

// hazard is what a side is not safe with: of the marks of among, those of lone alone.
type hazard struct {
	side        int
	among, lone row
}

var hazards = [...]hazard{
	{api.Initiator, row{mixedSE: true, mixedEE: true}, row{mixedSE: true}},
	{api.Initiator, row{mixedSS: true, mixedES: true}, row{mixedSS: true}},
	{api.Initiator, row{mixedPSK: true, initiatorE: true}, row{mixedPSK: true}},
	{api.Responder, row{mixedES: true, mixedEE: true}, row{mixedES: true}},
	{api.Responder, row{mixedSS: true, mixedSE: true}, row{mixedSS: true}},
	{api.Responder, row{mixedPSK: true, responderE: true}, row{mixedPSK: true}},
}

// Check tells which rule a pattern breaks, if it does.
func Check(p api.Pattern) error {
	if !shaped(p) {
		return api.ErrInvalid
	}
	has := ahead(p)
	for _, line := range p.Lines {
		next, err := has.behind(line)
		if err != nil {
			return err
		}
		has = next
	}
	if !has.safe(api.Initiator) || !oneWay(p) && !has.safe(api.Responder) {
		return api.ErrUnsafe
	}
	return nil
}

// ahead is the row at the beginning of the first message.
func ahead(p api.Pattern) (has row) {
	for side, keys := range p.Before {
		for _, key := range keys {
			has[rules[key].leaves[side]] = true
		}
	}
	return has
}

// behind is the row behind a message, or what the first of its tokens offends that offends something.
func (has row) behind(line api.Line) (row, error) {
	for _, token := range line.Tokens {
		if err := has.offended(line.From, token); err != nil {
			return row{}, err
		}
		has[rules[token].leaves[line.From]] = true
	}
	if !has.safe(line.From) {
		return row{}, api.ErrUnsafe
	}
	return has, nil
}

// offended is what a token offends at its own place; whether its message ends safely is asked behind the last one.
func (has row) offended(from, token int) error {
	r := rules[token]
	switch {
	case r.once && has[r.leaves[from]]:
		return api.ErrTwice
	case has.within(r.wants) != r.wants:
		return api.ErrLacks
	case token == api.TokenS && !has.safe(from):
		return api.ErrUnsafe
	}
	return nil
}

func (has row) safe(side int) bool {
	for _, h := range hazards {
		if h.side == side && has.within(h.among) == h.lone {
			return false
		}
	}
	return true
}

// within is the row without the marks that others has not.
func (has row) within(others row) row {
	for i := range has {
		has[i] = has[i] && others[i]
	}
	return has
}

func oneWay(p api.Pattern) bool {
	return len(p.Lines) == 1 && p.Lines[0].From == api.Initiator
}

// shaped tells whether the rules can be asked at all: from here on each side and each token is one that there is.
func shaped(p api.Pattern) bool {
	if !inOrder(p.Before[api.Initiator]) || !inOrder(p.Before[api.Responder]) {
		return false
	}
	total := 0
	for i, line := range p.Lines {
		total += len(line.Tokens)
		if total > api.MaxTokens || i > 0 && line.From == p.Lines[i-1].From || !shapedLine(line) {
			return false
		}
	}
	return total > 0
}

func shapedLine(line api.Line) bool {
	if line.From != api.Initiator && line.From != api.Responder {
		return false
	}
	for _, token := range line.Tokens {
		if token < api.TokenE || token > api.TokenPSK {
			return false
		}
	}
	return len(line.Tokens) > 0
}

// inOrder tells whether a list is nothing, e, s, or e and s in this order.
func inOrder(keys []int) bool {
	switch len(keys) {
	case 0:
		return true
	case 1:
		return keys[0] == api.TokenE || keys[0] == api.TokenS
	case 2:
		return keys[0] == api.TokenE && keys[1] == api.TokenS
	}
	return false
}
