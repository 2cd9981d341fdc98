package symmetric_test

import (
	"pintle/aead"
	"pintle/api"
	"pintle/kdf"
	"pintle/suite"
)

// model is what a State is to keep, moved on by the chapter's formulas, written out one by one. It calls chapters 10 to 12 alone.
type model struct {
	s                suite.Suite
	chain, hash, key api.Key
	has              bool
	number           uint64
}

func begun(s suite.Suite, name []byte) *model {
	m := &model{s: s}
	if len(name) > 32 {
		m.hash = s.Hash(name)
	} else {
		copy(m.hash[:], name)
	}
	m.chain = m.hash
	return m
}

func (m *model) mixHash(data []byte) { m.hash = m.s.Hash(m.hash[:], data) }

func (m *model) keyed(key api.Key) { m.key, m.has, m.number = key, true, 0 }

func (m *model) mixKey(in []byte) {
	a, b := kdf.Two(m.s, m.chain, in)
	m.chain = a
	m.keyed(b)
}

func (m *model) mixKeyAndHash(in []byte) {
	a, b, c := kdf.Three(m.s, m.chain, in)
	m.chain = a
	m.mixHash(b[:])
	m.keyed(c)
}

func (m *model) seal(buf []byte, n int) (int, error) {
	switch {
	case n < 0 || n > len(buf):
		return 0, api.ErrArg
	case m.has && len(buf)-n < 16:
		return 0, api.ErrRoom
	case m.has && m.number == api.LastNonce:
		return 0, api.ErrNonce
	case m.has:
		aead.Seal(m.s, m.key, m.number, m.hash[:], buf, n)
		n += 16
		m.number++
	}
	m.mixHash(buf[:n])
	return n, nil
}

func (m *model) open(buf []byte, n int) (int, error) {
	if n < 0 || n > len(buf) {
		return 0, api.ErrArg
	}
	next := m.s.Hash(m.hash[:], buf[:n])
	switch {
	case m.has && n < 16:
		return 0, api.ErrShort
	case m.has && m.number == api.LastNonce:
		return 0, api.ErrNonce
	case m.has:
		if _, err := aead.Open(m.s, m.key, m.number, m.hash[:], buf, n); err != nil {
			return 0, err
		}
		n -= 16
		m.number++
	}
	m.hash = next
	return n, nil
}

func (m *model) split() (api.Key, api.Key) { return kdf.Two(m.s, m.chain, nil) }
