package symmetric_test

import (
	"testing"

	"pintle/api"
	"pintle/kdf"
	"pintle/suite"
	"pintle/symmetric"
)

// P14.2: the hash is the digest of itself and data, as two pieces, each time; chaining key and cipher stay.
func TestMixHash(t *testing.T) {
	for _, s := range engines() {
		for _, n := range append(lengths(), 5000) {
			y, m := keyedPair(s)
			bare := symmetric.New(s, []byte("keel"))
			want := bare.Hash()
			for i := range 4 {
				data := drawn(uint64(i), n+i)
				y.MixHash(data)
				m.mixHash(data)
				mustHash(t, "MixHash", y, m)
				bare.MixHash(data)
				want = suite.Plain().Hash(want[:], data)
				if bare.Hash() != want || bare.Has() {
					t.Fatalf("%d bytes: %x, %v, not %x", n+i, bare.Hash(), bare.Has(), want)
				}
			}
			mustHold(t, "MixHash", y, m)
		}
	}
}

// P14.2: nothing, nil or empty, changes the hash too, and each time.
func TestMixHashOfNothing(t *testing.T) {
	for _, s := range engines() {
		y, z := symmetric.New(s, nil), symmetric.New(s, nil)
		seen := map[api.Key]bool{y.Hash(): true}
		for range 5 {
			y.MixHash(nil)
			z.MixHash([]byte{})
			if y.Hash() != z.Hash() || seen[y.Hash()] {
				t.Fatalf("%x, %x", y.Hash(), z.Hash())
			}
			seen[y.Hash()] = true
		}
	}
}

// P14.3: the first of Two is the chaining key, the second the cipher's; the hash stays.
func TestMixKey(t *testing.T) {
	for _, s := range engines() {
		for _, n := range append(lengths(), 5000) {
			y, m := pair(s, []byte("keel"))
			y.MixHash([]byte("mast"))
			m.mixHash([]byte("mast"))
			hash, chain := m.hash, m.chain
			for i := range 3 {
				in := drawn(uint64(i), n+i)
				first, second := kdf.Two(suite.Plain(), chain, in)
				y.MixKey(in)
				m.mixKey(in)
				if y.Hash() != hash || !y.Has() || m.chain != first || m.key != second {
					t.Fatalf("%d bytes: %x, %v", n+i, y.Hash(), y.Has())
				}
				mustSplit(t, "MixKey", y, m)
				chain = first
			}
			mustHold(t, "MixKey", y, m)
		}
	}
}

// P14.3: behind some messages the cipher has another key, and the number 0 again.
func TestMixKeyBehindMessages(t *testing.T) {
	for _, s := range engines() {
		y, m := keyedPair(s)
		for i := range 4 {
			for k := range i {
				mustSeal(t, "a message", y, m, drawn(uint64(k), 20))
			}
			y.MixKey(drawn(uint64(i), 32))
			m.mixKey(drawn(uint64(i), 32))
			mustHold(t, "MixKey behind messages", y, m)
		}
		setNumber(y, m, api.LastNonce)
		y.MixKey(nil)
		m.mixKey(nil)
		mustHold(t, "MixKey at the last number", y, m)
	}
}

// P14.4: the first of Three is the chaining key, the hash takes the second, the cipher has the third.
func TestMixKeyAndHash(t *testing.T) {
	for _, s := range engines() {
		for _, n := range append(lengths(), 5000) {
			y, m := pair(s, []byte("keel"))
			y.MixHash([]byte("mast"))
			m.mixHash([]byte("mast"))
			for i := range 3 {
				in := drawn(uint64(i), n+i)
				_, mixed, _ := kdf.Three(suite.Plain(), m.chain, in)
				want := suite.Plain().Hash(m.hash[:], mixed[:])
				y.MixKeyAndHash(in)
				m.mixKeyAndHash(in)
				if y.Hash() != want || !y.Has() {
					t.Fatalf("%d bytes: %x, %v, not %x", n+i, y.Hash(), y.Has(), want)
				}
				mustSplit(t, "MixKeyAndHash", y, m)
			}
			mustHold(t, "MixKeyAndHash", y, m)
		}
	}
}

// P14.4: behind some messages the number is 0 again.
func TestMixKeyAndHashBehindMessages(t *testing.T) {
	for _, s := range engines() {
		y, m := keyedPair(s)
		for i := range 4 {
			for k := range i {
				mustSeal(t, "a message", y, m, drawn(uint64(k), 20))
			}
			y.MixKeyAndHash(drawn(uint64(i), 32))
			m.mixKeyAndHash(drawn(uint64(i), 32))
			mustHold(t, "MixKeyAndHash behind messages", y, m)
		}
		setNumber(y, m, api.LastNonce)
		y.MixKeyAndHash(nil)
		m.mixKeyAndHash(nil)
		mustHold(t, "MixKeyAndHash at the last number", y, m)
	}
}

// P14.3, P14.4: nothing, nil or empty, makes a key too.
func TestMixOfNothing(t *testing.T) {
	for _, s := range engines() {
		for _, in := range [][]byte{nil, {}} {
			y, m := pair(s, nil)
			y.MixKey(in)
			m.mixKey(nil)
			mustHold(t, "MixKey of nothing", y, m)
			y, m = pair(s, nil)
			y.MixKeyAndHash(in)
			m.mixKeyAndHash(nil)
			mustHold(t, "MixKeyAndHash of nothing", y, m)
		}
	}
}

// P14.5: there is no key until one is mixed, by either call, and one from then on; asking changes nothing.
func TestHasAndHash(t *testing.T) {
	mixes := []func(y *symmetric.State, in []byte){(*symmetric.State).MixKey, (*symmetric.State).MixKeyAndHash}
	for _, s := range engines() {
		for _, mix := range mixes {
			y := symmetric.New(s, []byte("keel"))
			y.MixHash([]byte("mast"))
			y.Seal([]byte("abc"), 3)
			y.Open([]byte("abc"), 3)
			y.Split()
			if y.Has() {
				t.Error("a key out of nothing")
			}
			hash := y.Hash()
			if y.Hash() != hash || hash == (api.Key{'k', 'e', 'e', 'l'}) {
				t.Errorf("%x, then %x", hash, y.Hash())
			}
			mix(y, []byte("sail"))
			for range 2 {
				if !y.Has() {
					t.Error("no key")
				}
			}
			y.MixHash([]byte("mast"))
			y.Seal(make([]byte, 20), 4)
			y.Open(make([]byte, 20), 20)
			y.Split()
			if !y.Has() {
				t.Error("the key is gone")
			}
		}
	}
}
