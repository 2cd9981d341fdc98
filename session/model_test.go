package session_test

import (
	"slices"

	"pintle/api"
	"pintle/cipher"
	"pintle/handshake"
	"pintle/naming"
	"pintle/suite"
)

// lane is one way of a model. Its number is kept beside the cipher, and said to it ahead of each message.
type lane struct {
	c      *cipher.State
	number uint64
}

// model is what one side is to be, by the words of the chapter, one by one; it calls chapters 13, 16 and 18.
type model struct {
	h                 *handshake.State
	initiator, oneWay bool
	dead, over        bool
	lanes             map[int]*lane // by the numbers of the ways; those that it has
}

func newModel(engine suite.Suite, u api.Setup) (*model, error) {
	p, err := naming.Parse(u.Name)
	if err != nil {
		return nil, api.ErrName
	}
	h, err := handshake.New(engine, p, u)
	if err != nil {
		return nil, err
	}
	oneWay := len(p.Lines) == 1 && p.Lines[0].From == first
	return &model{h: h, initiator: u.Initiator, oneWay: oneWay, lanes: map[int]*lane{}}, nil
}

// settle is done behind each message of the handshake.
func (m *model) settle() {
	if !m.h.Over() {
		return
	}
	m.over = true
	a, b, _ := m.h.Split()
	if !m.oneWay || m.initiator {
		m.lanes[out] = &lane{c: a}
	}
	if !m.oneWay || !m.initiator {
		m.lanes[in] = &lane{c: b}
	}
}

func (m *model) write(payload []byte) ([]byte, error) {
	if m.dead {
		return nil, api.ErrDead
	}
	if !m.over {
		message, err := m.h.Write(payload)
		m.settle()
		return message, err
	}
	way := m.lanes[out]
	switch {
	case way == nil:
		return nil, api.ErrTurn
	case len(payload) > limit-16:
		return nil, api.ErrLong
	case way.number == last:
		return nil, api.ErrNonce
	}
	message := append(slices.Clone(payload), make([]byte, 16)...)
	way.c.SetNonce(way.number)
	n, err := way.c.Seal(nil, message, len(payload))
	way.number++
	return message[:n], err
}

func (m *model) read(message []byte) ([]byte, error) {
	if m.dead {
		return nil, api.ErrDead
	}
	if !m.over {
		payload, err := m.h.Read(message)
		m.dead = slices.Contains([]error{api.ErrShort, api.ErrStatic, api.ErrAuth}, err)
		m.settle()
		return payload, err
	}
	way := m.lanes[in]
	switch {
	case way == nil:
		return nil, api.ErrTurn
	case len(message) > limit:
		return nil, api.ErrLong
	case len(message) < 16:
		return nil, api.ErrShort
	case way.number == last:
		return nil, api.ErrNonce
	}
	payload := slices.Clone(message)
	way.c.SetNonce(way.number)
	n, err := way.c.Open(nil, payload, len(payload))
	if err != nil {
		return nil, api.ErrAuth
	}
	way.number++
	return payload[:n], nil
}

func (m *model) refusesWay(way int) error {
	switch {
	case m.dead:
		return api.ErrDead
	case way != out && way != in:
		return api.ErrArg
	case !m.over:
		return api.ErrOver
	case m.lanes[way] == nil:
		return api.ErrTurn
	}
	return nil
}

func (m *model) rekey(way int) error {
	if err := m.refusesWay(way); err != nil {
		return err
	}
	return m.lanes[way].c.Rekey()
}

func (m *model) setNonce(way int, n uint64) error {
	if err := m.refusesWay(way); err != nil {
		return err
	}
	m.lanes[way].number = n
	return nil
}

func (m *model) sight() api.Sight {
	x := api.Sight{Turn: m.h.Turn(), Over: m.over, Dead: m.dead, Hash: m.h.Hash()}
	x.Remote, x.HasRemote = m.h.Remote()
	if way := m.lanes[out]; way != nil {
		x.Out = way.number
	}
	if way := m.lanes[in]; way != nil {
		x.In = way.number
	}
	return x
}
