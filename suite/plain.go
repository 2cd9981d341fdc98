package suite

import (
	"pintle/api"
	"pintle/slow"
)

// Plain is the engine of layer 9.
func Plain() Suite {
	return Suite{
		engine: api.Plain,
		shared: slow.Shared,
		public: slow.Public,
		stream: slow.XOR,
		tag:    slow.Tag,
		check:  checkPlain,
		hash:   hashPlain,
	}
}

func checkPlain(key api.Key, tag api.Tag, pieces ...[]byte) bool {
	return slow.Tag(key, pieces...) == tag
}

func hashPlain(pieces ...[]byte) api.Key {
	var key api.Key
	// Digest refuses wrong sizes and long keys alone; neither comes here.
	sum, _ := slow.Digest(len(key), nil, pieces...)
	copy(key[:], sum)
	return key
}
