package pipes

import (
	"bytes"

	"pintle/api"
	"pintle/cipher"
)

const tagSize = 16 // bytes that a message has more than its payload, once the handshake is over

// seal is a message of a way out.
func seal(out *cipher.State, payload []byte) []byte {
	demand(len(payload) <= api.MaxMessage-tagSize, api.ErrLong)
	message := make([]byte, len(payload)+tagSize)
	copy(message, payload)
	_, err := out.Seal(nil, message, len(payload))
	demand(err == nil, err)
	return message
}

// open is the payload of a message of a way in. It works on a copy: what is opened is changed in place.
func open(in *cipher.State, message []byte) []byte {
	demand(len(message) <= api.MaxMessage, api.ErrLong)
	demand(len(message) >= tagSize, api.ErrShort)
	payload := bytes.Clone(message)
	n, err := in.Open(nil, payload, len(payload))
	demand(err == nil, err)
	return payload[:n:n]
}
