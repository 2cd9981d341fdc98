package pipes_test

import (
	"bytes"
	"slices"

	"pintle/api"
	"pintle/cipher"
	"pintle/handshake"
	"pintle/pattern"
	"pintle/suite"
)

// texts are the patterns of the roads, written out.
var texts = map[int]string{
	full: "XX:\n  -> e\n  <- e, ee, s, es\n  -> s, se\n",
	zero: "IK:\n  <- s\n  ...\n  -> e, es, s, ss\n  <- e, ee, se\n",
	back: "XXfallback:\n  -> e\n  ...\n  <- e, ee, s, es\n  -> s, se\n",
}

// kindsOf are the kinds of all messages that go over the line on a road, from the first one on.
var kindsOf = map[int][]byte{full: {1, 2, 3}, zero: {4, 5}, back: {4, 6, 7}}

// lane is one way of a model. Its number is kept beside the cipher, and said to it ahead of each message.
type lane struct {
	c      *cipher.State
	number uint64
}

// model is what one side is to be, by the words of the chapter, one by one; it calls chapters 13, 15 and 18.
type model struct {
	engine     suite.Suite
	u          api.PipeSetup
	dead, over bool
	road       int
	h          *handshake.State
	gone       int    // messages over the line, those of a handshake that was given up too
	opening    []byte // the message of the kind 4
	out, in    lane
}

func newModel(engine suite.Suite, u api.PipeSetup) *model {
	u.Prologue, u.Draws = slices.Clone(u.Prologue), slices.Clone(u.Draws)
	m := &model{engine: engine, u: u}
	if u.Opener && u.HasRemote {
		m.start(zero, api.Setup{Remote: u.Remote, HasRemote: true})
	} else if u.Opener {
		m.start(full, api.Setup{})
	}
	return m
}

// start begins the handshake of a road, with what that takes beside the own keys.
func (m *model) start(road int, u api.Setup) {
	p, err := pattern.Parse(texts[road])
	if err != nil {
		panic(err)
	}
	u.Name = "Noise_" + p.Name + "_25519_ChaChaPoly_BLAKE2s"
	u.Initiator, u.Static, u.HasStatic, u.Draws = m.u.Opener, m.u.Static, true, m.u.Draws
	u.Prologue = m.u.Prologue
	if road == back {
		u.Prologue = append(slices.Clone(m.u.Prologue), m.opening...)
	}
	m.road = road
	if m.h, err = handshake.New(m.engine, p, u); err != nil {
		panic(err)
	}
}

func (m *model) side() int {
	if m.u.Opener {
		return first
	}
	return second
}

// settle is done behind each message of the handshake.
func (m *model) settle() {
	m.gone++
	if m.h.Over() {
		m.over = true
		m.out.c, m.in.c, _ = m.h.Split()
	}
}

func (m *model) write(payload []byte) ([]byte, error) {
	if m.dead {
		return nil, api.ErrDead
	}
	if m.over {
		switch {
		case len(payload) > limit-16:
			return nil, api.ErrLong
		case m.out.number == last:
			return nil, api.ErrNonce
		}
		message := append(slices.Clone(payload), make([]byte, 16)...)
		m.out.c.SetNonce(m.out.number)
		n, err := m.out.c.Seal(nil, message, len(payload))
		m.out.number++
		return message[:n], err
	}
	if m.road == none || m.h.Turn() != m.side() {
		return nil, api.ErrTurn
	}
	kind := kindsOf[m.road][m.gone]
	if leastOf[kind]+len(payload) > limit {
		return nil, api.ErrLong
	}
	rest, err := m.h.Write(payload)
	if err != nil {
		return nil, err
	}
	message := slices.Insert(rest, 0, kind)
	if kind == 4 {
		m.opening = bytes.Clone(message)
	}
	m.settle()
	return message, nil
}

// awaited are the kinds that may come next.
func (m *model) awaited() []byte {
	switch {
	case !m.u.Opener && m.road == none:
		return []byte{1, 4}
	case !m.u.Opener && m.road == full:
		return []byte{3}
	case !m.u.Opener && m.road == back:
		return []byte{7}
	case m.u.Opener && m.road == full:
		return []byte{2}
	case m.u.Opener && m.road == zero:
		return []byte{5, 6}
	}
	return nil
}

func (m *model) read(message []byte) ([]byte, error) {
	switch {
	case m.dead:
		return nil, api.ErrDead
	case m.over:
		return m.open(message)
	case m.road != none && m.h.Turn() == m.side():
		return nil, api.ErrTurn
	case len(message) > limit:
		return nil, api.ErrLong
	case len(message) == 0 || !bytes.Contains(m.awaited(), message[:1]):
		return nil, api.ErrKind
	}
	switch message[0] {
	case 1:
		m.start(full, api.Setup{})
	case 4:
		m.start(zero, api.Setup{})
	case 6:
		m.start(back, api.Setup{Former: m.u.Draws[0], HasFormer: true})
	}
	payload, err := m.h.Read(message[1:])
	if err == nil {
		m.settle()
		return payload, nil
	}
	if met, ok := m.h.Met(); message[0] == 4 && err != api.ErrShort {
		m.opening = bytes.Clone(message)
		m.start(back, api.Setup{Ephemeral: met, HasEphemeral: ok})
		m.gone++
		return nil, nil
	}
	m.dead = true
	return nil, err
}

func (m *model) open(message []byte) ([]byte, error) {
	switch {
	case len(message) > limit:
		return nil, api.ErrLong
	case len(message) < 16:
		return nil, api.ErrShort
	case m.in.number == last:
		return nil, api.ErrNonce
	}
	payload := slices.Clone(message)
	m.in.c.SetNonce(m.in.number)
	n, err := m.in.c.Open(nil, payload, len(payload))
	if err != nil {
		return nil, api.ErrAuth
	}
	m.in.number++
	return payload[:n], nil
}

func (m *model) sight() api.PipeSight {
	x := api.Sight{Over: m.over, Dead: m.dead, Out: m.out.number, In: m.in.number}
	if m.road != none {
		x.Turn, x.Hash = m.h.Turn(), m.h.Hash()
		x.Remote, x.HasRemote = m.h.Remote()
	}
	return api.PipeSight{Road: m.road, Sight: x}
}
