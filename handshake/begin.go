package handshake

import (
	"slices"

	"pintle/api"
	"pintle/pattern"
	"pintle/suite"
	"pintle/symmetric"
)

// New begins a handshake of that pattern.
func New(s suite.Suite, p api.Pattern, u api.Setup) (*State, error) {
	if err := pattern.Check(p); err != nil {
		return nil, err
	}
	side := sideOf(u)
	if lacksKey(p, u, side) || len(u.Psks) != countPsks(p) {
		return nil, api.ErrKey
	}
	h := &State{
		suite:      s,
		alive:      true,
		side:       side,
		lines:      cloneLines(p.Lines),
		pskPattern: countPsks(p) > 0,
		psks:       slices.Clone(u.Psks),
		draws:      slices.Clone(u.Draws),
	}
	h.takeKeys(p, u)
	h.mixed = *symmetric.New(s, []byte(u.Name))
	h.mixed.MixHash(u.Prologue)
	h.mixBefore(p.Before)
	return h, nil
}

func sideOf(u api.Setup) int {
	if u.Initiator {
		return api.Initiator
	}
	return api.Responder
}

// lacksKey tells whether a key is needed that is not there.
func lacksKey(p api.Pattern, u api.Setup, side int) bool {
	own, other := p.Before[side], p.Before[1-side]
	for _, key := range []struct{ needed, has bool }{
		{hasStatic(p, side), u.HasStatic},
		{slices.Contains(other, api.TokenS), u.HasRemote},
		{slices.Contains(own, api.TokenE), u.HasFormer},
		{slices.Contains(other, api.TokenE), u.HasEphemeral},
	} {
		if key.needed && !key.has {
			return true
		}
	}
	return false
}

// hasStatic tells whether that side's static key stands anywhere in a pattern.
func hasStatic(p api.Pattern, side int) bool {
	sent := func(line api.Line) bool { return line.From == side && slices.Contains(line.Tokens, api.TokenS) }
	return slices.Contains(p.Before[side], api.TokenS) || slices.ContainsFunc(p.Lines, sent)
}

func countPsks(p api.Pattern) int {
	n := 0
	for _, line := range p.Lines {
		for _, token := range line.Tokens {
			if token == api.TokenPSK {
				n++
			}
		}
	}
	return n
}

func cloneLines(lines []api.Line) []api.Line {
	own := slices.Clone(lines)
	for i := range own {
		own[i].Tokens = slices.Clone(own[i].Tokens)
	}
	return own
}

// takeKeys takes of a Setup the keys that the pattern needs, and no others: what is not needed may be anything.
func (h *State) takeKeys(p api.Pattern, u api.Setup) {
	own, other := p.Before[h.side], p.Before[1-h.side]
	if hasStatic(p, h.side) {
		h.own[api.TokenS] = h.pairOf(u.Static)
	}
	if slices.Contains(own, api.TokenE) {
		h.own[api.TokenE] = h.pairOf(u.Former)
	}
	if slices.Contains(other, api.TokenS) {
		h.other[api.TokenS] = known{u.Remote, true}
	}
	if slices.Contains(other, api.TokenE) {
		h.other[api.TokenE] = known{u.Ephemeral, true}
	}
}

func (h *State) pairOf(private api.Key) pair { return pair{private, h.suite.Public(private)} }

// mixBefore mixes in the public keys that are known ahead, the initiator's first on both sides.
func (h *State) mixBefore(before [2][]int) {
	for side, tokens := range before {
		for _, token := range tokens {
			key := h.other[token].key
			if side == h.side {
				key = h.own[token].public
			}
			h.mixOpen(token, key)
		}
	}
}

// mixOpen mixes in a public key that is not sealed. A psk alone would make the same key in each handshake: there an e goes into the keys too.
func (h *State) mixOpen(token int, key api.Key) {
	h.mixed.MixHash(key[:])
	if token == api.TokenE && h.pskPattern {
		h.mixed.MixKey(key[:])
	}
}
