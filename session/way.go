package session

import (
	"bytes"

	"pintle/api"
	"pintle/cipher"
)

const tagSize = 16 // bytes that a message has more than its payload

// way is one of the two ways of a transport.
type way struct {
	cipher *cipher.State // nil, where there is no such way
}

// number is that of the next message.
func (w way) number() uint64 { return w.cipher.Nonce() }

func (w way) seal(payload []byte) ([]byte, error) {
	s := size{len(payload), 0, api.MaxMessage - tagSize}
	if err := refusal(w.lacking, s.long); err != nil {
		return nil, err
	}
	message := make([]byte, len(payload)+tagSize)
	copy(message, payload)
	if _, err := w.cipher.Seal(nil, message, len(payload)); err != nil {
		return nil, err
	}
	return message, nil
}

// open works on a copy: what is opened is changed in place, and left as zeros if it is not authentic.
func (w way) open(message []byte) ([]byte, error) {
	s := size{len(message), tagSize, api.MaxMessage}
	if err := refusal(w.lacking, s.long, s.short); err != nil {
		return nil, err
	}
	payload := bytes.Clone(message)
	n, err := w.cipher.Open(nil, payload, len(payload))
	if err != nil {
		return nil, err
	}
	return payload[:n:n], nil
}
