package session_test

import (
	"strings"
	"testing"

	"pintle/api"
	"pintle/handshake"
	"pintle/session"
	"pintle/suite"
	"pintle/trace"
)

// P19.1: New by the name of each of the 38 patterns, and by names with psk words and with fallback, both sides, on every engine.
func TestNewEach(t *testing.T) {
	inParts(t, append(tabled(), modified()...), func(t *testing.T, i int, full string) {
		for _, u := range setups(full, draw(i)) {
			for _, engine := range engines() {
				sideOf(t, engine, u)
			}
		}
	})
}

// P19.1: New by each name that there is, both sides: what it tells and logs is what the handshake does.
func TestNewEveryName(t *testing.T) {
	inParts(t, everyName(t), func(t *testing.T, i int, full string) {
		watched(t, full, 1)
	})
}

// wrongNames are names that Parse refuses.
func wrongNames() []string {
	all := []string{
		"", "NN", "Noise_NN", "NN_25519_ChaChaPoly_BLAKE2s", "noise_NN_25519_ChaChaPoly_BLAKE2s", "Noise_NN_25519_ChaChaPoly_BLAKE2b", "Noise_NN_448_ChaChaPoly_BLAKE2s",
		"Noise_NN_25519_AESGCM_BLAKE2s", "\x00", "\xff\xfe", nameOf("NN") + "\x00", " " + nameOf("NN"), nameOf("NN") + nameOf("NN"), strings.Repeat("N", 255), strings.Repeat("N", 256), strings.Repeat("N", 100000),
	}
	for _, full := range []string{"", "nn", "XY", "NNN", "psk0", "NN+psk0", "NNpsk", "NNpsk3", "NNpsk00", "NNpsk1+psk0", "NNpsk0+psk0", "NNpsk0psk1", "NNpsk0+", "NNpsk0+fallback", "Nfallback", "IKfallback", "NNfallback+psk2", "NN\xff", "N N", strings.Repeat("N", 300)} {
		all = append(all, nameOf(full))
	}
	return all
}

// P19.1: a name that Parse refuses is ErrName, whatever the Setup has, and ahead of every error of the handshake.
func TestNewWrongNames(t *testing.T) {
	r := trace.New()
	for _, name := range wrongNames() {
		full := setups("KKpsk0", 2)
		for _, u := range []api.Setup{{}, {Initiator: true}, {Psks: make([]api.Key, 30)}, {Draws: make([]api.Key, 3)}, full[first], full[second]} {
			for _, engine := range []suite.Suite{suite.Fast(r), suite.Plain(), {}} {
				u.Name = name
				if s, err := session.New(engine, u); s != nil || err != api.ErrName {
					t.Fatalf("New of %q: %v, %v", name, s, err)
				}
			}
		}
	}
	if r.Total() != 0 {
		t.Errorf("%d events are logged", r.Total())
	}
}

// without is a Setup without one of its keys.
func without(u api.Setup, key string) api.Setup {
	u.HasStatic, u.HasRemote = u.HasStatic && key != "static", u.HasRemote && key != "remote"
	u.HasFormer, u.HasEphemeral = u.HasFormer && key != "former", u.HasEphemeral && key != "ephemeral"
	return u
}

// P19.1: ErrKey for each key that a pattern needs, if it alone is not there, by hand; and for a psk fewer or more.
func TestNewKeysByHand(t *testing.T) {
	for full, needs := range map[string][2]string{
		"NN": {"", ""}, "NK": {"remote", "static"}, "KN": {"static", "remote"}, "XX": {"static", "static"}, "IK": {"static remote", "static"},
		"KK": {"static remote", "static remote"}, "N": {"remote", "static"}, "X": {"static remote", "static"}, "K": {"static remote", "static remote"},
		"KKpsk0+psk2": {"static remote", "static remote"}, "NNpsk0": {"", ""},
		"NNfallback": {"former", "ephemeral"}, "XXfallback": {"static former", "static ephemeral"}, "INfallback": {"static former", "remote ephemeral"},
	} {
		for side, u := range setups(full, 3) {
			for _, key := range []string{"", "static", "remote", "former", "ephemeral"} {
				var want error
				if key != "" && strings.Contains(needs[side], key) {
					want = api.ErrKey
				}
				mustNew(t, without(u, key), want)
			}
			more := cloneSetup(u)
			more.Psks = append(more.Psks, api.Key{1})
			mustNew(t, more, api.ErrKey)
			if len(u.Psks) > 0 {
				u.Psks = u.Psks[1:]
				mustNew(t, u, api.ErrKey)
			}
		}
	}
}

func mustNew(t *testing.T, u api.Setup, want error) {
	t.Helper()
	for _, engine := range engines() {
		if s, err := session.New(engine, u); err != want || (s == nil) != (want != nil) {
			t.Fatalf("New of %q: %v, %v, not %v", u.Name, s, err, want)
		}
	}
}

// P19.1: New refuses as the handshake's New does, of every choice of what a Setup has and of a psk fewer, as many, or more.
func TestNewAsHandshake(t *testing.T) {
	inParts(t, append(tabled(), modified()...), func(t *testing.T, i int, full string) {
		p := patternOf(t, full)
		for _, whole := range setups(full, 4) {
			for chosen := range 16 {
				for _, psks := range []int{-1, 0, 1, 2} {
					u := cloneSetup(whole)
					u.HasStatic, u.HasRemote, u.HasFormer, u.HasEphemeral = chosen&1 != 0, chosen&2 != 0, chosen&4 != 0, chosen&8 != 0
					u.Psks = append(u.Psks, api.Key{1}, api.Key{2})[:max(0, len(whole.Psks)+psks)]
					s, err := session.New(suite.Fast(nil), u)
					if _, want := handshake.New(suite.Fast(nil), p, u); err != want || (s == nil) != (want != nil) {
						t.Fatalf("New of %s, %d with %d psks: %v, not %v", full, chosen, len(u.Psks), err, want)
					}
				}
			}
		}
	})
}

// P19.1: what the pattern does not need is not looked at: keys of all kinds, and draws that there are too many of.
func TestNewLooksAtNoMore(t *testing.T) {
	d := draw(5)
	for full, needless := range map[string]int{"NN": first, "NNpsk0": second, "N": first, "NK": first, "XN": second} {
		u := setups(full, 6)[needless]
		want := sideOf(t, suite.Fast(nil), u).s.Sight()
		for _, has := range []bool{false, true} {
			u.Static, u.HasStatic = d.key(), has
			u.Former, u.HasFormer = d.key(), has
			u.Ephemeral, u.HasEphemeral = d.key(), has
			u.Draws = append(u.Draws, d.key(), d.key())
			if s, err := session.New(suite.Fast(nil), u); err != nil || s.Sight() != want {
				t.Errorf("%s: %v", full, err)
			}
		}
	}
}
