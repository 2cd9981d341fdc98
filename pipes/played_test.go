package pipes_test

import (
	"crypto/sha256"
	"encoding/hex"
	"fmt"
	"testing"

	"pintle/api"
	"pintle/pipes"
	"pintle/suite"
)

// digests are SHA-256 of sessions that another program of the same protocol has played, by the rule of played below: of each road without a prologue and with one.
var digests = map[int][2]string{
	full: {"64a2e90f321308a46743e15f2ec3ff04596e96ee35fd28af113ba89d5181cac3", "3bdf5c7d6150035d477b2b17aa36cead76e8e93d6ce558041f24de8e6e99dafa"},
	zero: {"3928cea0a26f5af15ac0dab8eb3ead469fc44b83dd6625044095adf91441a0be", "a3af2e3166e76b90830a8a78e422535ca52f8e2e66a309d07831f2816386aeee"},
	back: {"6529c845225c9eb86b502f48b5da121cc21c93960c201f1b0bf9c67c0deec874", "bd5d45fd6f12000f27a92986ccaacf4cd55e09e50acdf6c9fe88b3a7d92efa89"},
}

// counted is 32 bytes from b on.
func counted(b byte) (key api.Key) {
	for i := range key {
		key[i] = b + byte(i)
	}
	return key
}

// played is the digest of all that went over the line, with the hash between the handshake and three messages of each way.
func played(t *testing.T, road int, prologue string, engine suite.Suite) string {
	t.Helper()
	remote := map[int]api.Key{zero: publicOf(counted(41)), back: publicOf(counted(201))}[road]
	a, err := pipes.New(engine, api.PipeSetup{Opener: true, Prologue: []byte(prologue), Static: counted(1), Remote: remote, HasRemote: road != full, Draws: []api.Key{counted(81)}})
	b, err2 := pipes.New(engine, api.PipeSetup{Prologue: []byte(prologue), Static: counted(41), Draws: []api.Key{counted(121)}})
	if err != nil || err2 != nil {
		t.Fatal(err, err2)
	}
	both, gone := [2]*pipes.Pipe{a, b}, []byte{}
	hand := func(from int, payload string) {
		t.Helper()
		message, err := both[from].Write([]byte(payload))
		got, err2 := both[1-from].Read(message)
		if err != nil || err2 != nil || string(got) != payload && message[0] != 4 {
			t.Fatalf("road %d: %v, %v, %q, not %q", road, err, err2, got, payload)
		}
		gone = append(gone, message...)
	}
	for n := range kindsOf[road] {
		hand(n%2, fmt.Sprint("message ", n))
	}
	hash := a.Sight().Sight.Hash
	gone = append(gone, hash[:]...)
	for n := range 6 {
		hand(n/3, fmt.Sprint("further ", n%3))
	}
	sum := sha256.Sum256(gone)
	return hex.EncodeToString(sum[:])
}

// P0.1, P21.2, P21.3: whole sessions of each road are, byte by byte, those of another program, on every engine.
func TestPlayed(t *testing.T) {
	t.Parallel()
	for road, wants := range digests {
		for i, prologue := range []string{"", "pintle"} {
			for n, engine := range engines() {
				if got := played(t, road, prologue, engine); got != wants[i] {
					t.Errorf("road %d, prologue %q, engine %d: %s, not %s", road, prologue, n, got, wants[i])
				}
			}
		}
	}
}
