package twin_test

import (
	"bytes"
	"fmt"
	"slices"
	"testing"

	"pintle/api"
	"pintle/suite"
	"pintle/twin"
)

// errorsOf are those of the answers.
func errorsOf(answers []api.Answer) []error {
	var all []error
	for _, a := range answers {
		all = append(all, a.Err)
	}
	return all
}

// secretive is a session of both sides of which all secrets are drawn, and all that is public is by the lengths alone; refused and failing messages are in it.
func secretive(t *testing.T, full string, secrets draw, fails bool) [2]*role {
	t.Helper()
	d, u := secrets, setups(full, secrets)
	var both [2]*role
	for side := range both {
		u[side].Prologue = []byte("ahoy")
		both[side] = roleOf(t, suite.Fast(nil), u[side])
	}
	for n := 0; !both[first].s.Sight().Over; n++ {
		turn := both[first].s.Sight().Turn
		both[1-turn].write(d.bytes(5))
		both[turn].write(d.bytes(limit))
		message := both[turn].write(d.bytes(13 * n)).Data
		if n == 1 && fails { // if it is under a key, that ends it
			message[len(message)-1] ^= 1
		}
		if both[1-turn].read(message); both[1-turn].s.Sight().Dead {
			break
		}
	}
	for n, from := range append(senders(full), first, first) {
		both[from].nonce(out, uint64(9*n))
		both[1-from].nonce(in, uint64(9*n))
		both[from].rekey(out)
		if n != 1 { // else it is read in vain
			both[1-from].rekey(in)
		}
		both[1-from].read(both[from].write(d.bytes(70 * n)).Data)
		both[1-from].sight()
	}
	return both
}

// mustBeBlind asks that two scripts that are alike in all that is public have one trace.
func mustBeBlind(t *testing.T, what string, a, b *role) {
	t.Helper()
	of := [2]*role{a, b}
	var errs [2][]error
	var traces [2][]api.Run
	for i, r := range of {
		got, runs, err := twin.Traced(r.setup, r.steps)
		if err != nil {
			t.Fatal(err)
		}
		errs[i], traces[i] = errorsOf(got), runs
	}
	if !slices.Equal(errs[0], errs[1]) {
		t.Fatalf("%s: %v, not %v", what, errs[0], errs[1])
	}
	if len(traces[0]) == 0 {
		t.Fatalf("%s: nothing is logged", what)
	}
	mustRun(t, what, traces[0], traces[1])
}

// P0.4: other keys, psks, draws and payloads of the same lengths, with the same errors: one trace.
func TestBlind(t *testing.T) {
	inParts(t, append(tabled(), modified()...), func(t *testing.T, i int, full string) {
		for _, fails := range []bool{false, true} {
			a := secretive(t, full, draw(50+i), fails)
			for k := range draw(2) {
				b := secretive(t, full, 1000*(k+1)+draw(i), fails)
				for side := range a {
					mustBeBlind(t, full, a[side], b[side])
				}
			}
		}
	})
}

// P0.4: the scripts above do come by messages that fail.
func TestBlindFails(t *testing.T) {
	for _, full := range []string{"NN", "XX", "IK"} {
		var met []error
		for _, r := range secretive(t, full, 50, true) {
			met = append(met, errorsOf(r.want)...)
		}
		for _, err := range []error{nil, api.ErrAuth, api.ErrDead, api.ErrTurn, api.ErrLong} {
			if !slices.Contains(met, err) {
				t.Errorf("%s: none has %v", full, err)
			}
		}
	}
}

// P0.4: the messages that are read being the same, byte by byte: those of the handshake that are not under a key as yet, and what fails.
func TestBlindSameMessages(t *testing.T) {
	d := draw(54)
	for _, full := range []string{"NN", "XX", "IN", "K", "IKpsk2", "NNfallback"} {
		read1, read2, read3 := d.bytes(96), d.bytes(120), d.bytes(40)
		var scripts [2][2]*role
		for i := range scripts {
			for side, u := range setups(full, draw(55+i)) {
				u.Prologue = []byte("ahoy")
				r := roleOf(t, suite.Fast(nil), u)
				for _, message := range [][]byte{read1, read2, read3} {
					r.write(d.bytes(33))
					r.read(message)
					r.sight()
				}
				scripts[i][side] = r
			}
		}
		for side := range 2 {
			mustBeBlind(t, full, scripts[0][side], scripts[1][side])
		}
	}
}

// P0.4: and behind the handshake right ones, while what is written is another payload of the same length.
func TestBlindOtherPayloads(t *testing.T) {
	for _, full := range []string{"NN", "XXpsk2", "KK"} {
		both, twins := pair(t, full, 56), [2]*role{}
		shakeHands(t, both, nil)
		for n := range 5 {
			say(t, both, n%2, bytes.Repeat([]byte{byte(n)}, 60*n))
		}
		for side, r := range both {
			twins[side] = roleOf(t, suite.Fast(nil), r.setup)
			for _, step := range r.steps {
				if step.Kind == write && twins[side].s.Sight().Over {
					step.Data = bytes.Repeat([]byte{0xff}, len(step.Data))
				}
				if a := twins[side].do(step); a.Err != nil {
					t.Fatal(a.Err)
				}
			}
			mustBeBlind(t, full, r, twins[side])
		}
	}
}

// P0.4: keys of noughts and of ones, and payloads of them, too.
func TestBlindAtTheEdges(t *testing.T) {
	for _, full := range []string{"NN", "KKpsk0+psk2", "X", "XXfallback"} {
		var scripts [][2]*role
		for _, b := range []byte{0, 1, 0x7f, 0x80, 0xff} {
			key := api.Key(bytes.Repeat([]byte{b}, 32))
			var both [2]*role
			for side, u := range setups(full, 51) {
				u.Static, u.Former, u.Draws = key, key, []api.Key{key}
				u.Remote, u.Ephemeral = publicOf(key), publicOf(key)
				for n := range u.Psks {
					u.Psks[n] = key
				}
				both[side] = roleOf(t, suite.Fast(nil), u)
			}
			shakeHands(t, both, key[:])
			say(t, both, first, bytes.Repeat(key[:], 20))
			scripts = append(scripts, both)
		}
		for _, both := range scripts {
			for side := range both {
				mustBeBlind(t, full, both[side], scripts[0][side])
			}
		}
	}
}

// P0.4: keys that a pattern does not need, and draws that are left, are not seen either.
func TestBlindToTheSpare(t *testing.T) {
	d := draw(52)
	bare := setups("NN", 52)[first]
	spare := bare
	bare.HasStatic, bare.HasRemote, bare.HasFormer, bare.HasEphemeral = false, false, false, false
	spare.Draws = append(slices.Clone(spare.Draws), d.key(), d.key())
	steps := []api.Step{{Kind: write, Data: []byte("hail")}, {Kind: read, Data: d.bytes(60)}, {Kind: sight}}
	a, runs, err := twin.Traced(bare, steps)
	b, same, err2 := twin.Traced(spare, steps)
	if err != nil || err2 != nil {
		t.Fatal(err, err2)
	}
	mustAnswer(t, "the spare", b, a)
	mustRun(t, "the spare", same, runs)
}

// The trace does hang on what is public: on lengths, on names, on which error came.
func TestNotBlindToThePublic(t *testing.T) {
	u := setups("NN", 53)
	other := u[second]
	other.Prologue = make([]byte, 65)
	right := roleOf(t, suite.Fast(nil), u[first]).write([]byte("hail")).Data
	traces := map[string]int{}
	for i, of := range []struct {
		u     api.Setup
		steps []api.Step
	}{
		{u[second], nil},
		{other, nil},
		{setups("NX", 53)[second], nil},
		{u[second], []api.Step{{Kind: read, Data: right}}},
		{u[second], []api.Step{{Kind: read, Data: append(right, 1)}}},
		{u[second], []api.Step{{Kind: read, Data: right}, {Kind: write}}},
		{u[second], []api.Step{{Kind: read, Data: right}, {Kind: write, Data: []byte("a")}}},
	} {
		_, runs, err := twin.Traced(of.u, of.steps)
		if err != nil {
			t.Fatal(err)
		}
		text := fmt.Sprint(runs)
		if traces[text] != 0 {
			t.Errorf("%d has the trace of %d", i, traces[text]-1)
		}
		traces[text] = i + 1
	}
}
