package symmetric_test

import (
	"bytes"
	"slices"
	"testing"

	"pintle/aead"
	"pintle/api"
	"pintle/kdf"
	"pintle/suite"
	"pintle/symmetric"
	"pintle/trace"
)

// logged asks for just the events of the calls that a formula names, made by hand on an engine with the same keys.
func logged(t *testing.T, what string, ready func(y *symmetric.State, m *model), call func(y *symmetric.State), byHand func(s suite.Suite, m model)) {
	t.Helper()
	r, want := trace.New(), trace.New()
	y, m := pair(suite.Fast(r), []byte("keel"))
	ready(y, m)
	ahead := r.Total()
	call(y)
	byHand(suite.Fast(want), *m)
	got := slices.Collect(r.Since(ahead))
	if !slices.Equal(got, want.Events()) {
		t.Fatalf("%s: %d events, not the %d that its formula names", what, len(got), want.Total())
	}
}

func unready(y *symmetric.State, m *model) {}

// withKey mixes all there is, and leaves a message behind it.
func withKey(y *symmetric.State, m *model) {
	y.MixHash([]byte("mast"))
	m.mixHash([]byte("mast"))
	y.MixKeyAndHash([]byte("oar"))
	m.mixKeyAndHash([]byte("oar"))
	y.Seal(make([]byte, 20), 4)
	m.seal(make([]byte, 20), 4)
}

func atTheEnd(y *symmetric.State, m *model) {
	withKey(y, m)
	setNumber(y, m, api.LastNonce)
}

// S2: what is mixed asks for the digests that chapter 12 names, and for the hash's own.
func TestMixCalls(t *testing.T) {
	for _, n := range lengths() {
		in := drawn(1, n)
		for _, ready := range []func(*symmetric.State, *model){unready, withKey} {
			logged(t, "MixHash", ready, func(y *symmetric.State) { y.MixHash(in) }, func(s suite.Suite, m model) {
				s.Hash(m.hash[:], in)
			})
			logged(t, "MixKey", ready, func(y *symmetric.State) { y.MixKey(in) }, func(s suite.Suite, m model) {
				kdf.Two(s, m.chain, in)
			})
			logged(t, "MixKeyAndHash", ready, func(y *symmetric.State) { y.MixKeyAndHash(in) }, func(s suite.Suite, m model) {
				_, b, _ := kdf.Three(s, m.chain, in)
				s.Hash(m.hash[:], b[:])
			})
			logged(t, "Split", ready, func(y *symmetric.State) { y.Split() }, func(s suite.Suite, m model) {
				kdf.Two(s, m.chain, nil)
			})
			logged(t, "Hash, Has", ready, func(y *symmetric.State) { y.Hash(); y.Has() }, func(s suite.Suite, m model) {})
		}
	}
}

// S2: Seal asks for chapter 11's Seal, if there is a key, and behind it for one digest of the hash and what is sealed.
func TestSealCalls(t *testing.T) {
	for _, n := range lengths() {
		seal := func(y *symmetric.State) { y.Seal(drawn(1, n+16), n) }
		logged(t, "Seal without a key", unready, seal, func(s suite.Suite, m model) {
			s.Hash(m.hash[:], drawn(1, n))
		})
		logged(t, "Seal", withKey, seal, func(s suite.Suite, m model) {
			buf := drawn(1, n+16)
			aead.Seal(s, m.key, m.number, m.hash[:], buf, n)
			s.Hash(m.hash[:], buf)
		})
		nothing := func(s suite.Suite, m model) {}
		logged(t, "Seal at the last number", atTheEnd, seal, nothing)
		logged(t, "Seal without room", withKey, func(y *symmetric.State) { y.Seal(drawn(1, n+15), n) }, nothing)
		for _, ready := range []func(*symmetric.State, *model){unready, withKey, atTheEnd} {
			logged(t, "Seal of too many", ready, func(y *symmetric.State) { y.Seal(drawn(1, n+9)[:n], n+1) }, nothing)
			logged(t, "Seal of -1", ready, func(y *symmetric.State) { y.Seal(drawn(1, n), -1) }, nothing)
		}
	}
}

// S2: Open asks for one digest of the hash and the n bytes first, whatever the cipher will say to them, then for chapter 11's Open, if it comes to it; for nothing, if it is ErrArg.
func TestOpenCalls(t *testing.T) {
	for _, n := range lengths() {
		open := func(y *symmetric.State) { y.Open(drawn(1, n+3), n) }
		digest := func(s suite.Suite, m model) { s.Hash(m.hash[:], drawn(1, n)) }
		logged(t, "Open without a key", unready, open, digest)
		logged(t, "Open at the last number, or too short", atTheEnd, open, digest)
		logged(t, "Open of what is refused", withKey, open, func(s suite.Suite, m model) {
			digest(s, m)
			aead.Open(s, m.key, m.number, m.hash[:], drawn(1, n), n) // too short: no event
		})
		var right []byte
		logged(t, "Open", func(y *symmetric.State, m *model) {
			withKey(y, m)
			right = sealedFor(t, m, drawn(2, n))
		}, func(y *symmetric.State) {
			got, err := y.Open(bytes.Clone(right), n+16)
			mustAnswer(t, "Open", got, err, n, nil)
		}, func(s suite.Suite, m model) {
			s.Hash(m.hash[:], right)
			aead.Open(s, m.key, m.number, m.hash[:], bytes.Clone(right), n+16)
		})
		nothing := func(s suite.Suite, m model) {}
		for _, ready := range []func(*symmetric.State, *model){unready, withKey, atTheEnd} {
			logged(t, "Open of too many", ready, func(y *symmetric.State) { y.Open(drawn(1, n+9)[:n], n+1) }, nothing)
			logged(t, "Open of -1", ready, func(y *symmetric.State) { y.Open(drawn(1, n), -1) }, nothing)
		}
	}
}

// S2: a whole walk logs what the formulas log, one behind the other.
func TestWalkLogs(t *testing.T) {
	choice := drawn(90, 900)
	r, want := trace.New(), trace.New()
	y, m := symmetric.New(suite.Fast(r), choice[:50]), begun(suite.Fast(want), choice[:50])
	for i := 0; i+3 < len(choice); i += 3 {
		what, size, n := choice[i]%8, int(choice[i+1])%90, int(choice[i+2])%80-2
		stateStepper(y).step(what, drawn(uint64(i), size), n)
		modelStepper(m).step(what, drawn(uint64(i), size), n)
	}
	y.Split()
	m.split()
	mustLog(t, "a walk", r, want)
	mustHash(t, "a walk", y, m)
}

// P0.4: two States to which the same calls are made, with other bytes of the same lengths, have the same trace, if the same errors came.
func TestBlind(t *testing.T) {
	var traces [3]*trace.Recorder
	var errs [3][]error
	for k := range traces {
		traces[k] = trace.New()
		bytesOf := func(i, n int) []byte {
			if k == 0 {
				return make([]byte, n)
			}
			return drawn(uint64(1000*k+i), n)
		}
		y, z := symmetric.New(suite.Fast(traces[k]), bytesOf(1, 40)), symmetric.New(suite.Plain(), bytesOf(1, 40))
		for i, n := range lengths() {
			both(y, z, func(y *symmetric.State) { y.MixHash(bytesOf(i, n)) })
			for _, from := range []*symmetric.State{y, z} { // y seals what z opens, then opens what z seals
				to := map[*symmetric.State]*symmetric.State{y: z, z: y}[from]
				buf := bytesOf(i+50, n+16)
				size, err := from.Seal(buf, n)
				_, err2 := to.Open(buf, size)
				errs[k] = append(errs[k], err, err2)
			}
			both(y, z, func(y *symmetric.State) { y.MixKey(bytesOf(i+100, n)) })
			_, err := y.Open(bytesOf(i+150, n), n)
			_, err2 := y.Seal(bytesOf(i+200, n), n)
			errs[k] = append(errs[k], err, err2)
			both(y, z, func(y *symmetric.State) { y.MixKeyAndHash(bytesOf(i+250, n)) })
			y.Split()
		}
	}
	for k := 1; k < len(traces); k++ {
		if !slices.Equal(errs[0], errs[k]) {
			t.Fatalf("%v, not %v", errs[k], errs[0])
		}
		mustLog(t, "other bytes", traces[k], traces[0])
	}
	if traces[0].Total() == 0 || !slices.Contains(errs[0], api.ErrAuth) || !slices.Contains(errs[0], api.ErrShort) || !slices.Contains(errs[0], api.ErrRoom) {
		t.Errorf("%d events, %v", traces[0].Total(), errs[0])
	}
}
