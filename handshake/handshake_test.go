package handshake_test

import (
	"bytes"
	"slices"
	"strconv"
	"strings"
	"sync"
	"testing"

	"pintle/aead"
	"pintle/api"
	"pintle/cipher"
	"pintle/handshake"
	"pintle/pattern"
	"pintle/suite"
	"pintle/trace"
)

const (
	e, s, ee, es, se, ss, psk = api.TokenE, api.TokenS, api.TokenEE, api.TokenES, api.TokenSE, api.TokenSS, api.TokenPSK

	first, second = api.Initiator, api.Responder

	limit = 65535 // bytes of a message, as the document writes it
)

// spelled are the words of the tokens.
var spelled = [...]string{"", "e", "s", "ee", "es", "se", "ss", "psk"}

// draw is numbers by a fixed rule, so that every run sees the same ones.
type draw uint64

func (d *draw) below(n int) int {
	*d = *d*6364136223846793005 + 1442695040888963407
	return int(uint64(*d)>>33) % n
}

func (d *draw) bytes(n int) []byte {
	list := make([]byte, n)
	for i := range list {
		list[i] = byte(d.below(256))
	}
	return list
}

func (d *draw) key() api.Key { return api.Key(d.bytes(32)) }

// tokensOf reads tokens as the document writes them, with commas between.
func tokensOf(list string) []int {
	var tokens []int
	for _, word := range strings.Split(list, ", ") {
		if word != "" {
			tokens = append(tokens, slices.Index(spelled[:], word))
		}
	}
	return tokens
}

// begun is a pattern whose messages go by turns, from that side on; a message is written as the document's table does.
func begun(side int, i, r, messages string) api.Pattern {
	p := api.Pattern{Name: "Own", Before: [2][]int{tokensOf(i), tokensOf(r)}}
	for n, message := range strings.Split(messages, "; ") {
		p.Lines = append(p.Lines, api.Line{From: (side + n) % 2, Tokens: tokensOf(message)})
	}
	return p
}

// made is one that the initiator begins.
func made(i, r, messages string) api.Pattern { return begun(first, i, r, messages) }

// modified is a pattern of the table with words laid on it.
func modified(t *testing.T, name string, words ...string) api.Pattern {
	t.Helper()
	p, ok := pattern.Find(name)
	if !ok {
		t.Fatalf("%q is not found", name)
	}
	p, err := pattern.Modify(p, words...)
	if err != nil {
		t.Fatalf("%s %q: %v", name, words, err)
	}
	return p
}

// tabled are the 38 patterns.
func tabled() []api.Pattern { return slices.Collect(pattern.All()) }

// everyModified is each pattern of the table, without a word and with each list of words that may stand there.
func everyModified(t *testing.T) []api.Pattern {
	t.Helper()
	var all []api.Pattern
	add := func(p api.Pattern, ahead []string, messages int) {
		for chosen := range 1 << (messages + 1) {
			words := slices.Clone(ahead)
			for n := range messages + 1 {
				if chosen>>n&1 == 1 {
					words = append(words, "psk"+strconv.Itoa(n))
				}
			}
			all = append(all, modified(t, p.Name, words...))
		}
	}
	for p := range pattern.All() {
		add(p, nil, len(p.Lines))
		if _, err := pattern.Modify(p, "fallback"); err == nil {
			add(p, []string{"fallback"}, len(p.Lines)-1)
		}
	}
	if len(all) != 776 {
		t.Fatalf("%d patterns", len(all))
	}
	return all
}

// untabled are valid patterns that are in no table: an e behind an s that is open or sealed, in the midst, or nowhere; keys of all kinds known ahead; a psk at every place.
func untabled() []api.Pattern {
	return []api.Pattern{
		made("", "", "e"), made("", "", "s"), made("", "", "s, e"), made("", "", "psk, e, s; e, ee, se"),
		made("", "", "s, e; s, e, ee, se, es, ss"),
		made("", "", "e; s, e, psk"), made("", "", "e; s, e, psk; s, psk, psk"), made("", "", "s, e; s, e, psk"),
		made("e, s", "e, s", "ee, es, se, ss"), made("e, s", "e, s", "psk, ee, es, se, ss; psk; psk, psk"),
		begun(second, "e", "e", "psk"), begun(second, "e", "e", "s; psk, s"), begun(second, "", "", "e, s"), begun(second, "e, s", "s", "e, ee, se, es, ss; psk"),
		begun(second, "", "e", "s, psk; e, s, ee, se, es"), begun(second, "s", "e", "psk; e, ee, psk, se"),
		begun(second, "e", "e", strings.Repeat("psk; ", 23)+"psk"),
		made("", "", "e, "+strings.Repeat("psk, ", 21)+"s, psk"),
	}
}

// drawnPattern is a valid pattern: tokens that offend nothing by themselves are laid one behind the other, until the whole is taken.
func drawnPattern(d *draw) api.Pattern {
	keys := []string{"", "e", "s", "e, s"}
	for {
		p := api.Pattern{Name: "Own", Before: [2][]int{tokensOf(keys[d.below(4)]), tokensOf(keys[d.below(4)])}}
		p.Lines = []api.Line{{From: d.below(2), Tokens: []int{1 + d.below(7)}}}
		for range d.below(60) {
			q := extended(d, p)
			if err := pattern.Check(q); err == nil || err == api.ErrUnsafe {
				p = q
			}
		}
		if pattern.Check(p) == nil {
			return p
		}
	}
}

// extended is a pattern with one token more, in its last Line or in a new one.
func extended(d *draw, p api.Pattern) api.Pattern {
	q := clonePattern(p)
	last := &q.Lines[len(q.Lines)-1]
	token := 1 + d.below(7)
	if d.below(3) == 0 {
		q.Lines = append(q.Lines, api.Line{From: 1 - last.From, Tokens: []int{token}})
	} else {
		last.Tokens = append(last.Tokens, token)
	}
	return q
}

// drawnPatterns are so many of them.
func drawnPatterns(seed draw, n int) []api.Pattern {
	var all []api.Pattern
	for range n {
		all = append(all, drawnPattern(&seed))
	}
	return all
}

func clonePattern(p api.Pattern) api.Pattern {
	p.Before = [2][]int{slices.Clone(p.Before[0]), slices.Clone(p.Before[1])}
	p.Lines = slices.Clone(p.Lines)
	for i := range p.Lines {
		p.Lines[i].Tokens = slices.Clone(p.Lines[i].Tokens)
	}
	return p
}

func cloneSetup(u api.Setup) api.Setup {
	u.Prologue, u.Psks, u.Draws = slices.Clone(u.Prologue), slices.Clone(u.Psks), slices.Clone(u.Draws)
	return u
}

var (
	publics     = map[api.Key]api.Key{}
	publicsLock sync.Mutex
)

// publicOf is the public key of a private one; those that were worked out once are kept, as most tests take the same few.
func publicOf(private api.Key) api.Key {
	publicsLock.Lock()
	defer publicsLock.Unlock()
	if _, ok := publics[private]; !ok {
		publics[private] = suite.Fast(nil).Public(private)
	}
	return publics[private]
}

// setups are the two sides, with all keys that there are, so many psks as the pattern takes, and a draw each.
func setups(p api.Pattern, seed draw) [2]api.Setup {
	d := &seed
	var sides [2]api.Setup
	statics, formers := [2]api.Key{d.key(), d.key()}, [2]api.Key{d.key(), d.key()}
	prologue, psks := d.bytes(9), []api.Key{}
	for range count(p, psk) {
		psks = append(psks, d.key())
	}
	for side := range sides {
		sides[side] = api.Setup{
			Name: "Noise_" + p.Name + "_25519_ChaChaPoly_BLAKE2s", Initiator: side == first, Prologue: bytes.Clone(prologue),
			Static: statics[side], HasStatic: true, Remote: publicOf(statics[1-side]), HasRemote: true,
			Former: formers[side], HasFormer: true, Ephemeral: publicOf(formers[1-side]), HasEphemeral: true,
			Psks: slices.Clone(psks), Draws: []api.Key{d.key()},
		}
	}
	return sides
}

// count is how often a token stands in the messages.
func count(p api.Pattern, token int) int {
	n := 0
	for _, line := range p.Lines {
		for _, one := range line.Tokens {
			if one == token {
				n++
			}
		}
	}
	return n
}

// one is a side of a handshake, and what it is to be; whatever is asked of it is asked of both, and held against each other.
type one struct {
	t *testing.T
	p api.Pattern
	h *handshake.State
	m *model
}

// sideOf begins one; the model has its own engine.
func sideOf(t *testing.T, engine, own suite.Suite, p api.Pattern, u api.Setup) *one {
	t.Helper()
	h, err := handshake.New(engine, p, u)
	m, wanted := newModel(own, p, u)
	if err != wanted || err != nil || h == nil {
		t.Fatalf("New(%v): %v, %v", p, err, wanted)
	}
	o := &one{t, p, h, m}
	o.hold()
	return o
}

// sides are the two that fit, on the fast engine.
func sides(t *testing.T, p api.Pattern, seed draw) [2]*one {
	t.Helper()
	u := setups(p, seed)
	return [2]*one{sideOf(t, suite.Fast(nil), suite.Fast(nil), p, u[first]), sideOf(t, suite.Fast(nil), suite.Fast(nil), p, u[second])}
}

func (o *one) fail(what string, got, want any) {
	o.t.Helper()
	o.t.Fatalf("%s of %v, message %d, side %d: %v, not %v", what, o.p, o.m.gone, o.m.side, got, want)
}

// hold asks for all that a State tells of itself.
func (o *one) hold() {
	o.t.Helper()
	if got, want := o.h.Turn(), o.m.turn(); got != want {
		o.fail("Turn", got, want)
	}
	if got, want := o.h.Over(), o.m.over(); got != want {
		o.fail("Over", got, want)
	}
	if got, want := o.h.Dead(), o.m.dead; got != want {
		o.fail("Dead", got, want)
	}
	if got, want := o.h.Hash(), o.m.hash; got != want {
		o.fail("Hash", got, want)
	}
	if key, ok := o.h.Remote(); key != o.m.remote.key || ok != o.m.remote.is {
		o.fail("Remote", key, o.m.remote)
	}
	if key, ok := o.h.Met(); key != o.m.met.key || ok != o.m.met.is {
		o.fail("Met", key, o.m.met)
	}
}

// alike holds two answers against each other; beside an error there is none.
func (o *one) alike(what string, got []byte, err error, want []byte, wanted error) {
	o.t.Helper()
	if err != wanted {
		o.fail(what, err, wanted)
	}
	if !bytes.Equal(got, want) || err != nil && len(got) != 0 {
		o.fail(what, got, want)
	}
	o.hold()
}

func (o *one) write(payload []byte) ([]byte, error) {
	o.t.Helper()
	got, err := o.h.Write(payload)
	want, wanted := o.m.write(payload)
	o.alike("Write", got, err, want, wanted)
	return got, err
}

func (o *one) read(message []byte) ([]byte, error) {
	o.t.Helper()
	got, err := o.h.Read(message)
	want, wanted := o.m.read(message)
	o.alike("Read", got, err, want, wanted)
	return got, err
}

func (o *one) size(n int) (int, error) {
	o.t.Helper()
	got, err := o.h.Size(n)
	if want, wanted := o.m.size(n); got != want || err != wanted {
		o.t.Fatalf("Size(%d) of %v, message %d: %d, %v, not %d, %v", n, o.p, o.m.gone, got, err, want, wanted)
	}
	o.hold()
	return got, err
}

// split asks for the two ciphers, if they can be had, and for nothing beside an error.
func (o *one) split() (out, in *cipher.State, err error) {
	o.t.Helper()
	out, in, err = o.h.Split()
	a, b, wanted := o.m.split()
	if err != wanted || (err != nil) != (out == nil) || (err != nil) != (in == nil) {
		o.fail("Split", err, wanted)
	}
	if err == nil {
		mustCipher(o.t, "out", out, a)
		mustCipher(o.t, "in", in, b)
	}
	o.hold()
	return out, in, err
}

// mustWrite is a message that is not refused.
func (o *one) mustWrite(payload []byte) []byte {
	o.t.Helper()
	message, err := o.write(payload)
	if err != nil {
		o.fail("Write", err, nil)
	}
	return message
}

// mustRead reads what is not to be refused.
func (o *one) mustRead(message, want []byte) {
	o.t.Helper()
	payload, err := o.read(message)
	if err != nil || !bytes.Equal(payload, want) {
		o.fail("Read", err, nil)
	}
}

// mustRefuse asks for an error of Write, Read and Size each, and for one of Split.
func (o *one) mustRefuse(write, read, size, split error) {
	o.t.Helper()
	_, err1 := o.write([]byte("keel"))
	_, err2 := o.read(make([]byte, 200))
	_, err3 := o.size(4)
	_, _, err4 := o.split()
	if err1 != write || err2 != read || err3 != size || err4 != split {
		o.t.Fatalf("%v, message %d: %v, %v, %v, %v", o.p, o.m.gone, err1, err2, err3, err4)
	}
}

// pass hands the next message on, as it is.
func pass(both [2]*one, payload []byte) {
	from := both[first].m.turn()
	both[first].t.Helper()
	both[1-from].mustRead(both[from].mustWrite(payload), payload)
	if both[first].h.Hash() != both[second].h.Hash() {
		both[first].fail("Hash", both[first].h.Hash(), both[second].h.Hash())
	}
}

// passed are two sides behind so many messages.
func passed(t *testing.T, p api.Pattern, seed draw, messages int) [2]*one {
	t.Helper()
	both := sides(t, p, seed)
	for range messages {
		pass(both, []byte("hail"))
	}
	return both
}

// mustCipher asks for a cipher with that key and the number 0; it seals a message of its own.
func mustCipher(t *testing.T, what string, c *cipher.State, key api.Key) {
	t.Helper()
	if c == nil || !c.Has() || c.Nonce() != 0 {
		t.Fatalf("%s: no cipher with a key and the number 0", what)
	}
	got, want := append([]byte("probe"), make([]byte, 16)...), append([]byte("probe"), make([]byte, 16)...)
	n, err := c.Seal(nil, got, 5)
	aead.Seal(suite.Plain(), key, 0, nil, want, 5)
	if n != 21 || err != nil || !bytes.Equal(got, want) {
		t.Fatalf("%s: %x, %d, %v, not %x", what, got, n, err, want)
	}
	c.SetNonce(0)
}

// mustLog asks whether two traces are alike.
func mustLog(t *testing.T, what string, got, want *trace.Recorder) {
	t.Helper()
	if !trace.Same(got, want) {
		t.Fatalf("%s: %d events, not %d", what, got.Total(), want.Total())
	}
}
