package handshake_test

import (
	"slices"

	"pintle/aead"
	"pintle/api"
	"pintle/kdf"
	"pintle/pattern"
	"pintle/suite"
)

// told is a key that is known, or none.
type told struct {
	key api.Key
	is  bool
}

// model is what one side is to be, moved on by the formulas of the chapter and of chapter 14, written out one by one. It calls chapters 10 to 12 and Check alone. A copy of it is another one.
type model struct {
	s    suite.Suite
	p    api.Pattern
	u    api.Setup
	side int

	gone, draws, psks int // that are used up
	dead              bool
	ephemeral         api.Key // own, private
	static            api.Key // own, public
	remote, met       told

	chain, hash, key api.Key
	has              bool
	number           uint64
}

func newModel(engine suite.Suite, p api.Pattern, u api.Setup) (*model, error) {
	if err := pattern.Check(p); err != nil {
		return nil, err
	}
	m := &model{s: engine, p: clonePattern(p), u: cloneSetup(u), side: second}
	if u.Initiator {
		m.side = first
	}
	if m.lacks() {
		return nil, api.ErrKey
	}
	own, other := m.p.Before[m.side], m.p.Before[1-m.side]
	var former api.Key
	if m.hasStatic() {
		m.static = engine.Public(u.Static)
	}
	if slices.Contains(own, e) {
		m.ephemeral, former = u.Former, engine.Public(u.Former)
	}
	if slices.Contains(other, s) {
		m.remote = told{u.Remote, true}
	}
	if slices.Contains(other, e) {
		m.met = told{u.Ephemeral, true}
	}
	m.named([]byte(u.Name))
	m.mixHash(u.Prologue)
	for side, tokens := range m.p.Before {
		for _, token := range tokens {
			public := map[[2]bool]api.Key{{true, true}: former, {true, false}: m.static, {false, true}: m.met.key, {false, false}: m.remote.key}[[2]bool{side == m.side, token == e}]
			m.mixHash(public[:])
			if token == e && count(m.p, psk) > 0 {
				m.mixKey(public[:])
			}
		}
	}
	return m, nil
}

// hasStatic tells whether own s stands in Before or in a message.
func (m *model) hasStatic() bool {
	has := slices.Contains(m.p.Before[m.side], s)
	for _, line := range m.p.Lines {
		has = has || line.From == m.side && slices.Contains(line.Tokens, s)
	}
	return has
}

func (m *model) lacks() bool {
	own, other := m.p.Before[m.side], m.p.Before[1-m.side]
	switch {
	case m.hasStatic() && !m.u.HasStatic:
	case slices.Contains(other, s) && !m.u.HasRemote:
	case slices.Contains(own, e) && !m.u.HasFormer:
	case slices.Contains(other, e) && !m.u.HasEphemeral:
	case len(m.u.Psks) != count(m.p, psk):
	default:
		return false
	}
	return true
}

// underKey is what the chapter's words say of a place: that token of that message, or the end of its tokens.
func underKey(p api.Pattern, message, place int) bool {
	var ahead []int
	for _, line := range p.Lines[:message] {
		ahead = append(ahead, line.Tokens...)
	}
	ahead = append(ahead, p.Lines[message].Tokens[:place]...)
	ahead = append(append(ahead, p.Before[0]...), p.Before[1]...)
	secret := func(token int) bool { return token >= ee || token == e && count(p, psk) > 0 }
	return slices.ContainsFunc(ahead, secret)
}

// lengthUpTo is how many bytes the pieces of a message have that stand ahead of a place.
func lengthUpTo(p api.Pattern, message, place int) int {
	n := 0
	for i, token := range p.Lines[message].Tokens[:place] {
		switch {
		case token == s && underKey(p, message, i):
			n += 48
		case token == s || token == e:
			n += 32
		}
	}
	return n
}

// leastOf is the length of a message with no payload.
func leastOf(p api.Pattern, message int) int {
	end := len(p.Lines[message].Tokens)
	n := lengthUpTo(p, message, end)
	if underKey(p, message, end) {
		n += 16
	}
	return n
}

func (m *model) line() api.Line { return m.p.Lines[m.gone] }

func (m *model) turn() int {
	if m.gone == len(m.p.Lines) {
		return 0
	}
	return m.line().From
}

func (m *model) over() bool { return m.gone == len(m.p.Lines) }

func (m *model) size(n int) (int, error) {
	switch {
	case n < 0:
		return 0, api.ErrArg
	case m.dead:
		return 0, api.ErrDead
	case m.over():
		return 0, api.ErrOver
	case n > limit || leastOf(m.p, m.gone)+n > limit:
		return 0, api.ErrLong
	}
	return leastOf(m.p, m.gone) + n, nil
}

func (m *model) write(payload []byte) ([]byte, error) {
	switch {
	case m.dead:
		return nil, api.ErrDead
	case m.over():
		return nil, api.ErrOver
	case m.line().From != m.side:
		return nil, api.ErrTurn
	case slices.Contains(m.line().Tokens, e) && m.draws == len(m.u.Draws):
		return nil, api.ErrDraw
	case leastOf(m.p, m.gone)+len(payload) > limit:
		return nil, api.ErrLong
	}
	var message []byte
	for _, token := range m.line().Tokens {
		switch token {
		case e:
			m.ephemeral = m.u.Draws[m.draws]
			m.draws++
			public := m.s.Public(m.ephemeral)
			message = append(message, public[:]...)
			m.mixEphemeral(public[:])
		case s:
			message = append(message, m.seal(m.static[:])...)
		default:
			m.mixToken(token)
		}
	}
	message = append(message, m.seal(payload)...)
	m.gone++
	return message, nil
}

func (m *model) read(message []byte) ([]byte, error) {
	switch {
	case m.dead:
		return nil, api.ErrDead
	case m.over():
		return nil, api.ErrOver
	case m.line().From == m.side:
		return nil, api.ErrTurn
	case len(message) > limit:
		return nil, api.ErrLong
	}
	was := *m
	if len(message) < leastOf(m.p, m.gone) {
		return m.die(was, message, api.ErrShort)
	}
	rest := slices.Clone(message)
	for _, token := range m.line().Tokens {
		switch token {
		case e:
			m.met = told{api.Key(rest[:32]), true}
			m.mixEphemeral(rest[:32])
			rest = rest[32:]
		case s:
			n := 32
			if m.has {
				n = 48
			}
			key, ok := m.open(rest[:n])
			if !ok {
				return m.die(was, message, api.ErrStatic)
			}
			m.remote = told{api.Key(key), true}
			rest = rest[n:]
		default:
			m.mixToken(token)
		}
	}
	payload, ok := m.open(rest)
	if !ok {
		return m.die(was, message, api.ErrAuth)
	}
	m.gone++
	return payload, nil
}

// die is what was ahead of the message, but for being dead and for an e that the message reaches to the end of.
func (m *model) die(was model, message []byte, err error) ([]byte, error) {
	*m = was
	m.dead = true
	if place := slices.Index(m.line().Tokens, e); place >= 0 {
		if from := lengthUpTo(m.p, m.gone, place); len(message) >= from+32 {
			m.met = told{api.Key(message[from : from+32]), true}
		}
	}
	return nil, err
}

// mixToken is of a secret, whose word has the initiator's letter first, or of a psk.
func (m *model) mixToken(token int) {
	if token == psk {
		m.mixKeyAndHash(m.u.Psks[m.psks][:])
		m.psks++
		return
	}
	private, public := m.ephemeral, m.met.key
	if spelled[token][m.side] == 's' {
		private = m.u.Static
	}
	if spelled[token][1-m.side] == 's' {
		public = m.remote.key
	}
	shared := m.s.Shared(private, public)
	m.mixKey(shared[:])
}

func (m *model) mixEphemeral(public []byte) {
	m.mixHash(public)
	if count(m.p, psk) > 0 {
		m.mixKey(public)
	}
}

// split is the keys of the own way out and the own way in.
func (m *model) split() (api.Key, api.Key, error) {
	if m.dead {
		return api.Key{}, api.Key{}, api.ErrDead
	}
	if !m.over() {
		return api.Key{}, api.Key{}, api.ErrOver
	}
	a, b := kdf.Two(m.s, m.chain, nil)
	if m.side == second {
		a, b = b, a
	}
	return a, b, nil
}

func (m *model) named(name []byte) {
	if len(name) > 32 {
		m.hash = m.s.Hash(name)
	} else {
		copy(m.hash[:], name)
	}
	m.chain = m.hash
}

func (m *model) mixHash(data []byte) { m.hash = m.s.Hash(m.hash[:], data) }

func (m *model) keyed(key api.Key) { m.key, m.has, m.number = key, true, 0 }

func (m *model) mixKey(in []byte) {
	a, b := kdf.Two(m.s, m.chain, in)
	m.chain = a
	m.keyed(b)
}

func (m *model) mixKeyAndHash(in []byte) {
	a, b, c := kdf.Three(m.s, m.chain, in)
	m.chain = a
	m.mixHash(b[:])
	m.keyed(c)
}

func (m *model) seal(data []byte) []byte {
	piece := slices.Clone(data)
	if m.has {
		piece = append(piece, make([]byte, 16)...)
		aead.Seal(m.s, m.key, m.number, m.hash[:], piece, len(data))
		m.number++
	}
	m.mixHash(piece)
	return piece
}

func (m *model) open(piece []byte) ([]byte, bool) {
	next := m.s.Hash(m.hash[:], piece)
	if m.has {
		buf := slices.Clone(piece)
		n, err := aead.Open(m.s, m.key, m.number, m.hash[:], buf, len(buf))
		if err != nil {
			return nil, false
		}
		m.number++
		piece = buf[:n]
	}
	m.hash = next
	return piece, true
}
