package suite

import (
	"pintle/api"
	"pintle/curve"
	"pintle/digest"
	"pintle/mac"
	"pintle/stream"
	"pintle/trace"
)

// Fast is the engine of the layers 3 to 8, logging to r.
func Fast(r *trace.Recorder) Suite {
	return Suite{
		engine: api.Fast,
		shared: func(private, public api.Key) api.Key { return curve.Shared(r, private, public) },
		public: func(private api.Key) api.Key { return curve.Public(r, private) },
		stream: func(key api.Key, counter uint32, nonce api.Nonce, buf []byte) {
			stream.XOR(r, key, counter, nonce, buf)
		},
		tag: func(key api.Key, pieces ...[]byte) api.Tag { return mac.Of(r, key, pieces...) },
		check: func(key api.Key, tag api.Tag, pieces ...[]byte) bool {
			return mac.Check(r, key, tag, pieces...)
		},
		hash: func(pieces ...[]byte) api.Key { return digest.Of(r, pieces...) },
	}
}
