package handshake

import "pintle/api"

// failure is what the tokens of a message are given up with; Read catches it and answers the error.
type failure struct{ err error }

// passage is a message on its way through its tokens.
type passage struct {
	h      *State
	writes bool
	gather func(piece []byte) // of one that is written
	left   []byte             // of one that is read: what no token has taken
}

// row is a token: what it does to a message, and of a secret which key of the initiator's and which of the responder's it is of.
type row struct {
	does func(*passage, row)
	keys [2]int
}

// rows are by the token; the first one is no token's.
func rows() [api.TokenPSK + 1]row {
	return [...]row{
		api.TokenE:   {does: (*passage).ephemeral},
		api.TokenS:   {does: (*passage).static},
		api.TokenEE:  {does: (*passage).secret, keys: [2]int{api.TokenE, api.TokenE}},
		api.TokenES:  {does: (*passage).secret, keys: [2]int{api.TokenE, api.TokenS}},
		api.TokenSE:  {does: (*passage).secret, keys: [2]int{api.TokenS, api.TokenE}},
		api.TokenSS:  {does: (*passage).secret, keys: [2]int{api.TokenS, api.TokenS}},
		api.TokenPSK: {does: (*passage).preshared},
	}
}

// tokens does what the message's tokens say, one by one.
func (w *passage) tokens() {
	table := rows()
	for _, token := range w.h.lines[w.h.gone].Tokens {
		one := table[token]
		one.does(w, one)
	}
}

func (w *passage) ephemeral(row) {
	key := w.passEphemeral()
	w.h.mixOpen(api.TokenE, key)
}

// passEphemeral is the public key that goes over the line, on either side of it.
func (w *passage) passEphemeral() api.Key {
	h := w.h
	if !w.writes {
		key := api.Key(w.take(keySize))
		h.other[api.TokenE] = known{key, true}
		return key
	}
	drawn := h.pairOf(h.draws[0])
	h.draws = h.draws[1:]
	h.own[api.TokenE] = drawn
	w.gather(drawn.public[:])
	return drawn.public
}

func (w *passage) static(row) {
	h := w.h
	if w.writes {
		w.seal(h.own[api.TokenS].public[:])
		return
	}
	key := w.open(keySize+tagOf(h.mixed.Has()), api.ErrStatic)
	h.other[api.TokenS] = known{api.Key(key), true}
}

func (w *passage) secret(r row) {
	h := w.h
	private, public := h.own[r.keys[h.side]].private, h.other[r.keys[1-h.side]].key
	shared := h.suite.Shared(private, public)
	h.mixed.MixKey(shared[:])
}

func (w *passage) preshared(row) {
	h := w.h
	h.mixed.MixKeyAndHash(h.psks[0][:])
	h.psks = h.psks[1:]
}

// seal never fails: there is room for the tag, and a handshake has too few pieces to run out of numbers.
func (w *passage) seal(data []byte) {
	piece := make([]byte, len(data)+tagSize)
	copy(piece, data)
	n, _ := w.h.mixed.Seal(piece, len(data))
	w.gather(piece[:n])
}

// open is the next n bytes, opened; if they are not authentic, the message is given up with that error.
func (w *passage) open(n int, wrong error) []byte {
	piece := w.take(n)
	m, err := w.h.mixed.Open(piece, n)
	if err != nil {
		panic(failure{wrong})
	}
	return piece[:m:m]
}

func (w *passage) take(n int) []byte {
	piece := w.left[:n:n]
	w.left = w.left[n:]
	return piece
}
