package session_test

import (
	"bytes"
	"fmt"
	"slices"
	"strconv"
	"strings"
	"sync"
	"testing"

	"pintle/api"
	"pintle/naming"
	"pintle/pattern"
	"pintle/session"
	"pintle/suite"
	"pintle/trace"
)

const (
	first, second = api.Initiator, api.Responder

	out, in = 1, 2 // the ways, as package api numbers them

	limit      = 65535     // bytes of a message, as the document writes it
	last       = 1<<64 - 1 // the number that no message has
	namesInAll = 776       // the 38 patterns with every list of words that may stand there
)

// draw is numbers by a fixed rule, so that every run sees the same ones.
type draw uint64

func (d *draw) below(n int) int {
	*d = *d*6364136223846793005 + 1442695040888963407
	return int(uint64(*d)>>33) % n
}

func (d *draw) bytes(n int) []byte {
	list := make([]byte, n)
	for i := range list {
		list[i] = byte(d.below(256))
	}
	return list
}

func (d *draw) key() api.Key { return api.Key(d.bytes(32)) }

// nameOf is a protocol's name of a pattern's full name, as the document writes it.
func nameOf(full string) string { return "Noise_" + full + "_25519_ChaChaPoly_BLAKE2s" }

// tabled are the names of the 38 patterns.
func tabled() []string {
	var all []string
	for p := range pattern.All() {
		all = append(all, p.Name)
	}
	return all
}

// modified are names with words, a few of each kind; those that fall back to one message of the responder's too.
func modified() []string {
	return []string{"NNpsk0", "NNpsk0+psk1+psk2", "Npsk0", "Kpsk1", "Xpsk0+psk1", "XXpsk3", "IKpsk2", "KKpsk0+psk2", "X1X1psk4", "XXfallback", "XXfallback+psk0", "NNfallback", "INfallback", "IXfallback+psk0+psk1", "KXfallback", "X1Nfallback+psk3"}
}

// everyName is each pattern of the table, without a word and with each list of words that may stand there.
func everyName(t *testing.T) []string {
	t.Helper()
	var all []string
	add := func(base string, ahead []string, messages int) {
		for chosen := range 1 << (messages + 1) {
			words := slices.Clone(ahead)
			for n := range messages + 1 {
				if chosen>>n&1 == 1 {
					words = append(words, "psk"+strconv.Itoa(n))
				}
			}
			all = append(all, base+strings.Join(words, "+"))
		}
	}
	for p := range pattern.All() {
		add(p.Name, nil, len(p.Lines))
		if _, err := pattern.Modify(p, "fallback"); err == nil {
			add(p.Name, []string{"fallback"}, len(p.Lines)-1)
		}
	}
	if len(all) != namesInAll {
		t.Fatalf("%d names", len(all))
	}
	return all
}

// inParts runs a test of many names in parts, side by side.
func inParts(t *testing.T, all []string, run func(t *testing.T, i int, full string)) {
	t.Helper()
	const parts = 8
	for part := range parts {
		t.Run(fmt.Sprint("part ", part), func(t *testing.T) {
			t.Parallel()
			for i := part; i < len(all); i += parts {
				run(t, i, all[i])
			}
		})
	}
}

// engines are all there are, with a Recorder and without.
func engines() []suite.Suite {
	return []suite.Suite{suite.Fast(trace.New()), suite.Fast(nil), suite.Plain(), {}}
}

var (
	publics     = map[api.Key]api.Key{}
	publicsLock sync.Mutex
)

// publicOf is the public key of a private one; those that were worked out once are kept, as most tests take the same few.
func publicOf(private api.Key) api.Key {
	publicsLock.Lock()
	defer publicsLock.Unlock()
	if _, ok := publics[private]; !ok {
		publics[private] = suite.Fast(nil).Public(private)
	}
	return publics[private]
}

// patternOf is what a full name tells.
func patternOf(t *testing.T, full string) api.Pattern {
	t.Helper()
	p, err := naming.Parse(nameOf(full))
	if err != nil {
		t.Fatalf("%q: %v", full, err)
	}
	return p
}

// messagesOf is how many messages its handshake has.
func messagesOf(t *testing.T, full string) int {
	t.Helper()
	return len(patternOf(t, full).Lines)
}

// isOneWay tells it by the name: of the 38 patterns those of one letter alone are.
func isOneWay(full string) bool {
	base, _, _ := strings.Cut(full, "psk")
	return len(base) == 1
}

// setups are the two sides, with all keys that there are, so many psks as the name has psk words, and a draw each.
func setups(full string, seed draw) [2]api.Setup {
	d := &seed
	var sides [2]api.Setup
	statics, formers := [2]api.Key{d.key(), d.key()}, [2]api.Key{d.key(), d.key()}
	prologue, psks := d.bytes(9), []api.Key{}
	for range strings.Count(full, "psk") {
		psks = append(psks, d.key())
	}
	for side := range sides {
		sides[side] = api.Setup{
			Name: nameOf(full), Initiator: side == first, Prologue: bytes.Clone(prologue),
			Static: statics[side], HasStatic: true, Remote: publicOf(statics[1-side]), HasRemote: true,
			Former: formers[side], HasFormer: true, Ephemeral: publicOf(formers[1-side]), HasEphemeral: true,
			Psks: slices.Clone(psks), Draws: []api.Key{d.key()},
		}
	}
	return sides
}

func cloneSetup(u api.Setup) api.Setup {
	u.Prologue, u.Psks, u.Draws = slices.Clone(u.Prologue), slices.Clone(u.Psks), slices.Clone(u.Draws)
	return u
}

// one is a side of a session, and what it is to be; whatever is asked of it is asked of both, and held against each other, with what both log, if it is watched.
type one struct {
	t         *testing.T
	full      string
	s         *session.Session
	m         *model
	got, want *trace.Recorder
}

// sideOf begins one; the model has an engine of its own.
func sideOf(t *testing.T, engine suite.Suite, u api.Setup) *one {
	t.Helper()
	return begunOne(t, &one{}, engine, suite.Fast(nil), u)
}

// watchedOf begins one on the fast engine of which all that is logged is held against what the formulas log.
func watchedOf(t *testing.T, u api.Setup) *one {
	t.Helper()
	o := &one{got: trace.New(), want: trace.New()}
	return begunOne(t, o, suite.Fast(o.got), suite.Fast(o.want), u)
}

func begunOne(t *testing.T, o *one, engine, own suite.Suite, u api.Setup) *one {
	t.Helper()
	var err, wanted error
	o.t, o.full = t, u.Name
	o.s, err = session.New(engine, u)
	o.m, wanted = newModel(own, u)
	if err != nil || wanted != nil || o.s == nil {
		t.Fatalf("New of %q: %v, %v", u.Name, err, wanted)
	}
	o.hold("New")
	return o
}

// sides are the two that fit, on the fast engine.
func sides(t *testing.T, full string, seed draw) [2]*one {
	t.Helper()
	u := setups(full, seed)
	return [2]*one{sideOf(t, suite.Fast(nil), u[first]), sideOf(t, suite.Fast(nil), u[second])}
}

// watched are the two that fit, watched.
func watched(t *testing.T, full string, seed draw) [2]*one {
	t.Helper()
	u := setups(full, seed)
	return [2]*one{watchedOf(t, u[first]), watchedOf(t, u[second])}
}

// over are both, behind all messages of the handshake.
func over(both [2]*one) [2]*one {
	both[first].t.Helper()
	for !both[first].m.over {
		pass(both, []byte("hail"))
	}
	return both
}

// hold asks for all that a Session tells of itself.
func (o *one) hold(what string) {
	o.t.Helper()
	if got, want := o.s.Sight(), o.m.sight(); got != want {
		o.t.Fatalf("%s of %s, the Sight: %+v, not %+v", what, o.full, got, want)
	}
	if o.got != nil && !trace.Same(o.got, o.want) {
		o.t.Fatalf("%s of %s: %d events are logged, not %d", what, o.full, o.got.Total(), o.want.Total())
	}
}

// alike holds two answers against each other; beside an error there is none.
func (o *one) alike(what string, got []byte, err error, want []byte, wanted error) {
	o.t.Helper()
	if err != wanted {
		o.t.Fatalf("%s of %s: %v, not %v", what, o.full, err, wanted)
	}
	if !bytes.Equal(got, want) || err != nil && len(got) != 0 {
		o.t.Fatalf("%s of %s, %v: %d bytes %.40x, not %d bytes %.40x", what, o.full, err, len(got), got, len(want), want)
	}
	o.hold(what)
}

func (o *one) write(payload []byte) ([]byte, error) {
	o.t.Helper()
	got, err := o.s.Write(payload)
	want, wanted := o.m.write(payload)
	o.alike("Write", got, err, want, wanted)
	return got, err
}

func (o *one) read(message []byte) ([]byte, error) {
	o.t.Helper()
	got, err := o.s.Read(message)
	want, wanted := o.m.read(message)
	o.alike("Read", got, err, want, wanted)
	return got, err
}

func (o *one) rekey(way int) error {
	o.t.Helper()
	err := o.s.Rekey(way)
	o.alike("Rekey", nil, err, nil, o.m.rekey(way))
	return err
}

func (o *one) setNonce(way int, n uint64) error {
	o.t.Helper()
	err := o.s.SetNonce(way, n)
	o.alike("SetNonce", nil, err, nil, o.m.setNonce(way, n))
	return err
}

// mustWrite is a message that is not refused.
func (o *one) mustWrite(payload []byte) []byte {
	o.t.Helper()
	message, err := o.write(payload)
	if err != nil {
		o.t.Fatalf("Write of %s: %v", o.full, err)
	}
	return message
}

// mustRead reads what is not to be refused.
func (o *one) mustRead(message, want []byte) {
	o.t.Helper()
	payload, err := o.read(message)
	if err != nil || !bytes.Equal(payload, want) {
		o.t.Fatalf("Read of %s: %v, %.40x, not %.40x", o.full, err, payload, want)
	}
}

// must asks for an error, or for none.
func (o *one) must(what string, err, want error) {
	o.t.Helper()
	if err != want {
		o.t.Fatalf("%s of %s: %v, not %v", what, o.full, err, want)
	}
}

// mustRefuseWrite asks for that error of payloads of each of these lengths.
func (o *one) mustRefuseWrite(want error, lengths ...int) {
	o.t.Helper()
	for _, n := range lengths {
		_, err := o.write(make([]byte, n))
		o.must(fmt.Sprint("Write of ", n, " bytes"), err, want)
	}
}

// mustRefuseRead asks for that error of messages of each of these lengths.
func (o *one) mustRefuseRead(want error, lengths ...int) {
	o.t.Helper()
	for _, n := range lengths {
		_, err := o.read(make([]byte, n))
		o.must(fmt.Sprint("Read of ", n, " bytes"), err, want)
	}
}

// mustRefuseWay asks for that error of Rekey and of SetNonce of each of these ways.
func (o *one) mustRefuseWay(want error, ways ...int) {
	o.t.Helper()
	for _, way := range ways {
		o.must(fmt.Sprint("Rekey ", way), o.rekey(way), want)
		for _, n := range []uint64{0, 7, last} {
			o.must(fmt.Sprint("SetNonce ", way), o.setNonce(way, n), want)
		}
	}
}

// say hands a message on from that side, as it is.
func say(both [2]*one, from int, payload []byte) {
	both[first].t.Helper()
	both[1-from].mustRead(both[from].mustWrite(payload), payload)
}

// pass hands on the next message of the handshake.
func pass(both [2]*one, payload []byte) {
	both[first].t.Helper()
	say(both, both[first].m.h.Turn(), payload)
	if both[first].s.Sight().Hash != both[second].s.Sight().Hash {
		both[first].t.Fatalf("%s: two hashes", both[first].full)
	}
}

// senders are the sides that send behind the handshake.
func senders(full string) []int {
	if isOneWay(full) {
		return []int{first}
	}
	return []int{first, second}
}
