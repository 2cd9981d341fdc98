package handshake

import (
	"slices"

	"pintle/api"
)

// ends are where pieces of a message end.
type ends struct {
	e     int // 0, if there is none
	least int // the whole, without a payload
}

// next is of the next message; there must be one.
func (h *State) next() ends {
	var at ends
	keyed := h.mixed.Has()
	for _, token := range h.lines[h.gone].Tokens {
		switch token {
		case api.TokenE:
			at.least += keySize
			at.e = at.least
			keyed = keyed || h.pskPattern
		case api.TokenS:
			at.least += keySize + tagOf(keyed)
		default:
			keyed = true
		}
	}
	at.least += tagOf(keyed)
	return at
}

// tagOf is how many bytes a piece is longer for being sealed.
func tagOf(keyed bool) int {
	if keyed {
		return tagSize
	}
	return 0
}

// tooLong takes any n: the sum of the two could be more than a number holds.
func tooLong(least, n int) bool { return n > api.MaxMessage-least }

// lost is the error of a State of which nothing can be had.
func (h *State) lost() error {
	if h == nil {
		return api.ErrArg
	}
	if !h.alive {
		return api.ErrDead
	}
	return nil
}

// ended is the error of a State that has no next message.
func (h *State) ended() error {
	if err := h.lost(); err != nil {
		return err
	}
	if h.Over() {
		return api.ErrOver
	}
	return nil
}

func (h *State) refusesWrite(payload int) error {
	if err := h.ended(); err != nil {
		return err
	}
	line := h.lines[h.gone]
	switch {
	case line.From != h.side:
		return api.ErrTurn
	case len(h.draws) == 0 && slices.Contains(line.Tokens, api.TokenE):
		return api.ErrDraw
	case tooLong(h.next().least, payload):
		return api.ErrLong
	}
	return nil
}

// refusesRead does not ask for a message that is too short: that one is not refused, it ends the handshake.
func (h *State) refusesRead(message int) error {
	if err := h.ended(); err != nil {
		return err
	}
	switch {
	case h.lines[h.gone].From == h.side:
		return api.ErrTurn
	case message > api.MaxMessage:
		return api.ErrLong
	}
	return nil
}

// die ends it for good. The e of the message that failed is known all the same, however far the tokens came: who falls back begins with it.
func (h *State) die(message []byte, at ends) {
	h.alive = false
	if at.e > 0 && len(message) >= at.e {
		h.other[api.TokenE] = known{api.Key(message[at.e-keySize : at.e]), true}
	}
}
