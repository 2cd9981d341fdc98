package pipes_test

import (
	"bytes"
	"fmt"
	"slices"
	"sync"
	"testing"

	"pintle/api"
	"pintle/pipes"
	"pintle/suite"
	"pintle/trace"
)

const (
	first, second = 0, 1 // the opener and the answerer, as Turn tells them

	none, full, zero, back = 0, 1, 2, 3 // the roads, as package api numbers them

	limit = 65535     // bytes of a message, as the document writes it
	last  = 1<<64 - 1 // the number that no message has
)

// leastOf is how long a message of each kind is without a payload, its kind too.
var leastOf = map[byte]int{1: 1 + 32, 2: 1 + 32 + 48 + 16, 3: 1 + 48 + 16, 4: 1 + 32 + 48 + 16, 5: 1 + 32 + 16, 6: 1 + 32 + 48 + 16, 7: 1 + 48 + 16}

// allRoads are those that two sides can go.
func allRoads() []int { return []int{full, zero, back} }

// draw is numbers by a fixed rule, so that every run sees the same ones.
type draw uint64

func (d *draw) below(n int) int {
	*d = *d*6364136223846793005 + 1442695040888963407
	return int(uint64(*d)>>33) % n
}

func (d *draw) bytes(n int) []byte {
	list := make([]byte, n)
	for i := range list {
		list[i] = byte(d.below(256))
	}
	return list
}

func (d *draw) key() api.Key { return api.Key(d.bytes(32)) }

// engines are all there are, with a Recorder and without.
func engines() []suite.Suite {
	return []suite.Suite{suite.Fast(trace.New()), suite.Fast(nil), suite.Plain(), {}}
}

var (
	publics     = map[api.Key]api.Key{}
	publicsLock sync.Mutex
)

// publicOf is the public key of a private one; those that were worked out once are kept, as most tests take the same few.
func publicOf(private api.Key) api.Key {
	publicsLock.Lock()
	defer publicsLock.Unlock()
	if _, ok := publics[private]; !ok {
		publics[private] = suite.Fast(nil).Public(private)
	}
	return publics[private]
}

// setups are two sides that will go that road, each with a prologue and a draw.
func setups(road int, seed draw) [2]api.PipeSetup {
	d := &seed
	prologue, statics := d.bytes(9), [2]api.Key{d.key(), d.key()}
	var u [2]api.PipeSetup
	for side := range u {
		u[side] = api.PipeSetup{Opener: side == first, Prologue: bytes.Clone(prologue), Static: statics[side], Draws: []api.Key{d.key()}}
	}
	switch road {
	case zero:
		u[first].Remote, u[first].HasRemote = publicOf(statics[second]), true
	case back:
		u[first].Remote, u[first].HasRemote = publicOf(d.key()), true
	}
	return u
}

// one is a side, and what it is to be; whatever is asked of it is asked of both, and held against each other, with what both log, if it is watched.
type one struct {
	t         *testing.T
	p         *pipes.Pipe
	m         *model
	got, want *trace.Recorder
}

// sideOf begins one; the model has an engine of its own.
func sideOf(t *testing.T, engine suite.Suite, u api.PipeSetup) *one {
	t.Helper()
	return begun(&one{t: t}, engine, suite.Fast(nil), u)
}

// watchedOf begins one on the fast engine of which all that is logged is held against what the formulas log.
func watchedOf(t *testing.T, u api.PipeSetup) *one {
	t.Helper()
	o := &one{t: t, got: trace.New(), want: trace.New()}
	return begun(o, suite.Fast(o.got), suite.Fast(o.want), u)
}

func begun(o *one, engine, own suite.Suite, u api.PipeSetup) *one {
	o.t.Helper()
	var err error
	o.p, err = pipes.New(engine, u)
	o.m = newModel(own, u)
	if err != nil || o.p == nil {
		o.t.Fatalf("New of %+v: %v", u, err)
	}
	o.hold("New")
	return o
}

// pairOf are both sides of Setups, on the fast engine.
func pairOf(t *testing.T, u [2]api.PipeSetup) [2]*one {
	t.Helper()
	return [2]*one{sideOf(t, suite.Fast(nil), u[first]), sideOf(t, suite.Fast(nil), u[second])}
}

// sides are two that go that road.
func sides(t *testing.T, road int, seed draw) [2]*one {
	t.Helper()
	return pairOf(t, setups(road, seed))
}

// watched are two that go that road, watched.
func watched(t *testing.T, road int, seed draw) [2]*one {
	t.Helper()
	u := setups(road, seed)
	return [2]*one{watchedOf(t, u[first]), watchedOf(t, u[second])}
}

// hold asks for all that a Pipe tells of itself.
func (o *one) hold(what string) {
	o.t.Helper()
	if got, want := o.p.Sight(), o.m.sight(); got != want {
		o.t.Fatalf("%s, the Sight: %+v, not %+v", what, got, want)
	}
	if o.got != nil && !trace.Same(o.got, o.want) {
		o.t.Fatalf("%s: %d events are logged, not %d", what, o.got.Total(), o.want.Total())
	}
}

// alike holds two answers against each other; beside an error there is none.
func (o *one) alike(what string, got []byte, err error, want []byte, wanted error) {
	o.t.Helper()
	if err != wanted {
		o.t.Fatalf("%s: %v, not %v", what, err, wanted)
	}
	if !bytes.Equal(got, want) || err != nil && len(got) != 0 {
		o.t.Fatalf("%s, %v: %d bytes %.40x, not %d bytes %.40x", what, err, len(got), got, len(want), want)
	}
	o.hold(what)
}

func (o *one) write(payload []byte) ([]byte, error) {
	o.t.Helper()
	got, err := o.p.Write(payload)
	want, wanted := o.m.write(payload)
	o.alike("Write", got, err, want, wanted)
	return got, err
}

func (o *one) read(message []byte) ([]byte, error) {
	o.t.Helper()
	got, err := o.p.Read(message)
	want, wanted := o.m.read(message)
	o.alike("Read", got, err, want, wanted)
	return got, err
}

// setNumbers says the numbers of both ways.
func (o *one) setNumbers(out, in uint64) {
	o.t.Helper()
	o.p.SetNumbers(out, in)
	o.m.out.number, o.m.in.number = out, in
	o.hold("numbers that are said")
}

// mustWrite is a message that is not refused.
func (o *one) mustWrite(payload []byte) []byte {
	o.t.Helper()
	message, err := o.write(payload)
	if err != nil {
		o.t.Fatalf("Write: %v", err)
	}
	return message
}

// mustRead reads what is not to be refused.
func (o *one) mustRead(message, want []byte) {
	o.t.Helper()
	payload, err := o.read(message)
	if err != nil || !bytes.Equal(payload, want) {
		o.t.Fatalf("Read: %v, %.40x, not %.40x", err, payload, want)
	}
}

// mustRefuseWrite asks for that error of payloads of each of these lengths, and for a Sight that stays.
func (o *one) mustRefuseWrite(want error, lengths ...int) {
	o.t.Helper()
	was := o.p.Sight()
	for _, n := range lengths {
		if _, err := o.write(make([]byte, n)); err != want || o.p.Sight() != was {
			o.t.Fatalf("Write of %d bytes: %v, not %v", n, err, want)
		}
	}
}

// mustRefuseRead asks for that error of a message, and for a Sight that stays.
func (o *one) mustRefuseRead(want error, message []byte) {
	o.t.Helper()
	was := o.p.Sight()
	if _, err := o.read(message); err != want || o.p.Sight() != was {
		o.t.Fatalf("Read of %d bytes, %.4x: %v, not %v", len(message), message, err, want)
	}
}

// mustDieOf asks for that error of a message, and that the Pipe is dead behind it.
func (o *one) mustDieOf(want error, message []byte) {
	o.t.Helper()
	if _, err := o.read(message); err != want {
		o.t.Fatalf("Read of %d bytes, %.4x: %v, not %v", len(message), message, err, want)
	}
	o.mustBeDead()
}

// mustBeDead asks for ErrDead of every call, for ever, also of calls that are wrong for more than that.
func (o *one) mustBeDead() {
	o.t.Helper()
	if x := o.p.Sight().Sight; !x.Dead || x.Over || x.Out != 0 || x.In != 0 {
		o.t.Fatalf("not dead: %+v", x)
	}
	for range 2 {
		o.mustRefuseWrite(api.ErrDead, 0, 9, limit-16, limit, limit+1)
		for kind := range 9 {
			for _, n := range []int{1, 33, 97, limit, limit + 1} {
				o.mustRefuseRead(api.ErrDead, messageOf(byte(kind), n))
			}
		}
		o.mustRefuseRead(api.ErrDead, nil)
	}
}

// messageOf is a kind and zeros behind it, so many bytes in all; no bytes have no kind.
func messageOf(kind byte, n int) []byte {
	message := make([]byte, n)
	copy(message, []byte{kind})
	return message
}

// turned is a message in which one bit is another one; the place counts from the end, if it is below 0.
func turned(message []byte, place int) []byte {
	message = bytes.Clone(message)
	message[(place+len(message))%len(message)] ^= 4
	return message
}

// say hands a message on from that side, as it is; of one that is fallen back from no payload comes.
func say(both [2]*one, from int, payload []byte) {
	both[first].t.Helper()
	message := both[from].mustWrite(payload)
	if !both[first].m.over && both[first].u().HasRemote && both[first].u().Remote != publicOf(both[second].u().Static) && message[0] == 4 {
		payload = nil
	}
	both[1-from].mustRead(message, payload)
}

func (o *one) u() api.PipeSetup { return o.m.u }

// turnOf is who sends next.
func turnOf(both [2]*one) int {
	if both[second].m.road == none {
		return first
	}
	return both[second].m.h.Turn()
}

// pass hands on the next message of the handshake.
func pass(both [2]*one, payload []byte) {
	both[first].t.Helper()
	say(both, turnOf(both), payload)
}

// placed are two on that road, behind so many messages.
func placed(t *testing.T, road, place int, seed draw) [2]*one {
	t.Helper()
	both := sides(t, road, seed)
	for range place {
		pass(both, []byte("hail"))
	}
	return both
}

// over are both, behind all messages of the handshake.
func over(both [2]*one) [2]*one {
	both[first].t.Helper()
	for !both[first].m.over || !both[second].m.over {
		pass(both, []byte("hail"))
	}
	return both
}

// place is a state of one side: the road that both will have gone, the messages that have gone over the line, and whose it is.
type place struct{ road, gone, side int }

// places are all states ahead of the end.
func places() []place {
	var all []place
	for _, road := range allRoads() {
		for gone := range kindsOf[road] {
			all = append(all, place{road, gone, first}, place{road, gone, second})
		}
	}
	return all
}

// sendsNext tells whether it is this side's turn.
func (at place) sendsNext() bool { return at.gone%2 == at.side }

func (at place) String() string {
	return fmt.Sprintf("road %d, %d messages gone, side %d", at.road, at.gone, at.side)
}

// each runs a test of every state, side by side.
func each(t *testing.T, run func(t *testing.T, at place)) {
	t.Helper()
	for _, at := range places() {
		t.Run(at.String(), func(t *testing.T) {
			t.Parallel()
			run(t, at)
		})
	}
}

// reach is that side in that state.
func (at place) reach(t *testing.T, seed draw) *one {
	t.Helper()
	return placed(t, at.road, at.gone, seed)[at.side]
}

// awaits are the kinds that may come to a side that does not send next, by hand.
func (at place) awaits() []byte {
	switch at {
	case place{full, 0, second}, place{zero, 0, second}, place{back, 0, second}:
		return []byte{1, 4}
	case place{full, 1, first}:
		return []byte{2}
	case place{full, 2, second}:
		return []byte{3}
	case place{zero, 1, first}, place{back, 1, first}:
		return []byte{5, 6}
	case place{back, 2, second}:
		return []byte{7}
	}
	return nil
}

// The states are all there are, and awaits says something of just those that read.
func TestPlaces(t *testing.T) {
	if len(places()) != 16 {
		t.Errorf("%d states", len(places()))
	}
	for _, at := range places() {
		if (len(at.awaits()) == 0) != at.sendsNext() {
			t.Errorf("%v awaits %v", at, at.awaits())
		}
		if !at.sendsNext() && !slices.Contains(at.awaits(), kindsOf[at.road][at.gone]) {
			t.Errorf("%v awaits %v", at, at.awaits())
		}
	}
}
