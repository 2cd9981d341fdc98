package twin_test

import (
	"bytes"
	"fmt"
	"slices"
	"strings"
	"sync"
	"testing"

	"pintle/api"
	"pintle/pattern"
	"pintle/session"
	"pintle/suite"
	"pintle/twin"
)

const (
	first, second = api.Initiator, api.Responder

	// The kinds, the ways and the limits, as package api and the document number them.
	write, read, rekey, nonce, sight = 1, 2, 3, 4, 5
	out, in                          = 1, 2
	limit                            = 65535
	last                             = 1<<64 - 1
)

// engines are both.
func engines() []int { return []int{api.Fast, api.Plain} }

// draw is numbers by a fixed rule, so that every run sees the same ones.
type draw uint64

func (d *draw) below(n int) int {
	*d = *d*6364136223846793005 + 1442695040888963407
	return int(uint64(*d)>>33) % n
}

func (d *draw) bytes(n int) []byte {
	list := make([]byte, n)
	for i := range list {
		list[i] = byte(d.below(256))
	}
	return list
}

func (d *draw) key() api.Key { return api.Key(d.bytes(32)) }

// nameOf is a protocol's name of a pattern's full name, as the document writes it.
func nameOf(full string) string { return "Noise_" + full + "_25519_ChaChaPoly_BLAKE2s" }

// tabled are the names of the 38 patterns.
func tabled() []string {
	var all []string
	for p := range pattern.All() {
		all = append(all, p.Name)
	}
	return all
}

// modified are names with words, a few of each kind; those that fall back to one message of the responder's too.
func modified() []string {
	return []string{"NNpsk0", "NNpsk0+psk1+psk2", "Npsk0", "Kpsk1", "Xpsk0+psk1", "XXpsk3", "IKpsk2", "KKpsk0+psk2", "X1X1psk4", "XXfallback", "XXfallback+psk0", "NNfallback", "INfallback", "IXfallback+psk0+psk1", "KXfallback", "X1Nfallback+psk3"}
}

// few are names of every sort: one-way, with psks, with a fallback, with static keys at all places.
func few() []string {
	return []string{"NN", "N", "X", "Kpsk1", "XX", "IKpsk2", "KKpsk0+psk2", "X1X", "XXfallback", "NNfallback+psk0"}
}

// inParts runs a test of many names in parts, side by side.
func inParts(t *testing.T, all []string, run func(t *testing.T, i int, full string)) {
	t.Helper()
	const parts = 8
	for part := range parts {
		t.Run(fmt.Sprint("part ", part), func(t *testing.T) {
			t.Parallel()
			for i := part; i < len(all); i += parts {
				run(t, i, all[i])
			}
		})
	}
}

var (
	publics     = map[api.Key]api.Key{}
	publicsLock sync.Mutex
)

// publicOf is the public key of a private one; those that were worked out once are kept, as most tests take the same few.
func publicOf(private api.Key) api.Key {
	publicsLock.Lock()
	defer publicsLock.Unlock()
	if _, ok := publics[private]; !ok {
		publics[private] = suite.Fast(nil).Public(private)
	}
	return publics[private]
}

// isOneWay tells it by the name: of the 38 patterns those of one letter alone are.
func isOneWay(full string) bool {
	base, _, _ := strings.Cut(full, "psk")
	return len(base) == 1
}

// setups are the two sides, with all keys that there are, so many psks as the name has psk words, and a draw each.
func setups(full string, seed draw) [2]api.Setup {
	d := &seed
	var sides [2]api.Setup
	statics, formers := [2]api.Key{d.key(), d.key()}, [2]api.Key{d.key(), d.key()}
	prologue, psks := d.bytes(9), []api.Key{}
	for range strings.Count(full, "psk") {
		psks = append(psks, d.key())
	}
	for side := range sides {
		sides[side] = api.Setup{
			Name: nameOf(full), Initiator: side == first, Prologue: bytes.Clone(prologue),
			Static: statics[side], HasStatic: true, Remote: publicOf(statics[1-side]), HasRemote: true,
			Former: formers[side], HasFormer: true, Ephemeral: publicOf(formers[1-side]), HasEphemeral: true,
			Psks: slices.Clone(psks), Draws: []api.Key{d.key()},
		}
	}
	return sides
}

// role is one side with the steps that were asked of a Session of it, and what that answered: what a script of these steps is to answer.
type role struct {
	setup api.Setup
	s     *session.Session
	steps []api.Step
	want  []api.Answer
}

func roleOf(t *testing.T, engine suite.Suite, u api.Setup) *role {
	t.Helper()
	s, err := session.New(engine, u)
	if err != nil {
		t.Fatalf("New of %q: %v", u.Name, err)
	}
	return &role{setup: u, s: s}
}

// pair are the two sides that fit.
func pair(t *testing.T, full string, seed draw) [2]*role {
	t.Helper()
	u := setups(full, seed)
	return [2]*role{roleOf(t, suite.Fast(nil), u[first]), roleOf(t, suite.Fast(nil), u[second])}
}

// do asks a step of the Session, by the table of the chapter, row by row.
func (r *role) do(step api.Step) api.Answer {
	var a api.Answer
	switch step.Kind {
	case write:
		a.Data, a.Err = r.s.Write(step.Data)
	case read:
		a.Data, a.Err = r.s.Read(step.Data)
	case rekey:
		a.Err = r.s.Rekey(step.Way)
	case nonce:
		a.Err = r.s.SetNonce(step.Way, step.Number)
	case sight:
		a.Sight = r.s.Sight()
	default:
		a.Err = api.ErrKind
	}
	step.Data = bytes.Clone(step.Data)
	r.steps = append(r.steps, step)
	r.want = append(r.want, a)
	return a
}

func (r *role) write(payload []byte) api.Answer { return r.do(api.Step{Kind: write, Data: payload}) }

func (r *role) read(message []byte) api.Answer { return r.do(api.Step{Kind: read, Data: message}) }

func (r *role) rekey(way int) api.Answer { return r.do(api.Step{Kind: rekey, Way: way}) }

func (r *role) nonce(way int, n uint64) api.Answer {
	return r.do(api.Step{Kind: nonce, Way: way, Number: n})
}

func (r *role) sight() api.Sight { return r.do(api.Step{Kind: sight}).Sight }

// say hands a message on from that side, as it is; nothing of it is to be refused.
func say(t *testing.T, both [2]*role, from int, payload []byte) {
	t.Helper()
	sent := both[from].write(payload)
	got := both[1-from].read(sent.Data)
	if sent.Err != nil || got.Err != nil || !bytes.Equal(got.Data, payload) {
		t.Fatalf("%s: %v, %v, %x, not %x", both[first].setup.Name, sent.Err, got.Err, got.Data, payload)
	}
}

// shakeHands says all messages of the handshake.
func shakeHands(t *testing.T, both [2]*role, payload []byte) {
	t.Helper()
	for !both[first].s.Sight().Over {
		say(t, both, both[first].s.Sight().Turn, payload)
	}
}

// senders are the sides that send behind the handshake.
func senders(full string) []int {
	if isOneWay(full) {
		return []int{first}
	}
	return []int{first, second}
}

// whole is a session of both sides: the handshake and what comes behind it, rekeyed, with numbers said, and looked at on the way.
func whole(t *testing.T, full string, seed draw) [2]*role {
	t.Helper()
	both, d := pair(t, full, seed), seed
	for !both[first].s.Sight().Over {
		say(t, both, both[first].s.Sight().Turn, d.bytes(d.below(80)))
		both[d.below(2)].sight()
	}
	for _, from := range senders(full) {
		say(t, both, from, d.bytes(d.below(300)))
		both[from].rekey(out)
		both[1-from].rekey(in)
		say(t, both, from, d.bytes(d.below(300)))
		both[from].nonce(out, 1<<40)
		both[1-from].nonce(in, 1<<40)
		say(t, both, from, nil)
	}
	both[first].sight()
	both[second].sight()
	return both
}

// wrongOf is a message made wrong, in one of the ways that there are: cut, turned, longer, too long, another one.
func wrongOf(d *draw, message []byte) []byte {
	wrong := bytes.Clone(message)
	switch d.below(6) {
	case 0:
		return wrong[:d.below(len(wrong)+1)]
	case 1, 2:
		if len(wrong) > 0 {
			wrong[d.below(len(wrong))] ^= 1 << d.below(8)
		}
		return wrong
	case 3:
		return append(wrong, d.bytes(1+d.below(40))...)
	case 4:
		return make([]byte, limit+d.below(2))
	}
	return d.bytes(d.below(200))
}

// anyhow is a script of both sides of drawn steps, right ones and wrong ones, at all places.
func anyhow(t *testing.T, full string, seed draw, steps int) [2]*role {
	t.Helper()
	both, d := pair(t, full, seed), seed
	message := []byte{}
	for range steps {
		side := d.below(2)
		if turn := both[first].s.Sight().Turn; d.below(3) > 0 {
			side = turn
		}
		r := both[side]
		switch d.below(11) {
		case 0, 1, 2, 3, 4:
			if a := r.write(d.bytes(d.below(90))); a.Err == nil {
				message = a.Data
				both[1-side].read(message)
			}
		case 5:
			r.read(message)
		case 6:
			if r.s.Sight().Over || d.below(6) == 0 {
				r.read(wrongOf(&d, message))
			}
		case 7:
			r.rekey(d.below(4))
		case 8:
			r.nonce(d.below(4), uint64(d.below(3))-1)
		case 9:
			r.write(make([]byte, limit-16+d.below(3)))
		default:
			r.do(api.Step{Kind: d.below(9) - 1, Data: d.bytes(d.below(3)), Way: d.below(3)})
		}
		r.sight()
	}
	return both
}

// mustAnswer holds answers against those that are to be, step by step and field by field.
func mustAnswer(t *testing.T, what string, got, want []api.Answer) {
	t.Helper()
	if len(got) != len(want) {
		t.Fatalf("%s: %d answers, not %d", what, len(got), len(want))
	}
	for i, a := range want {
		if got[i].Err != a.Err || !bytes.Equal(got[i].Data, a.Data) || got[i].Sight != a.Sight {
			t.Fatalf("%s, step %d: %s, not %s", what, i, shown(got[i]), shown(a))
		}
	}
}

func shown(a api.Answer) string {
	return fmt.Sprintf("%v, %d bytes %.40x, %+v", a.Err, len(a.Data), a.Data, a.Sight)
}

// mustPlay plays the steps of a role on both engines, and asks for what its Session answered.
func (r *role) mustPlay(t *testing.T) {
	t.Helper()
	for _, engine := range engines() {
		r.mustPlayOn(t, engine)
	}
}

func (r *role) mustPlayOn(t *testing.T, engine int) {
	t.Helper()
	got, err := twin.Play(engine, r.setup, r.steps)
	if err != nil {
		t.Fatalf("Play of %s: %v", r.setup.Name, err)
	}
	mustAnswer(t, fmt.Sprint("Play of ", r.setup.Name, " on ", engine), got, r.want)
}

// mustBe asks for one answer.
func mustBe(t *testing.T, what string, got, want api.Answer) {
	t.Helper()
	mustAnswer(t, what, []api.Answer{got}, []api.Answer{want})
}
