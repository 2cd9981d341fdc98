package pipes_test

import (
	"bytes"
	"testing"

	"pintle/api"
	"pintle/pipes"
	"pintle/suite"
	"pintle/trace"
)

// P21.1: New is never refused: of an opener and of an answerer, with a key and without one, with a prologue of any length and without one, with any number of draws, with keys of any bytes, on every engine.
func TestNewNeverRefused(t *testing.T) {
	d := draw(1)
	for _, opener := range []bool{true, false} {
		for _, has := range []bool{true, false} {
			for _, prologue := range [][]byte{nil, {}, {0}, d.bytes(64), d.bytes(70000)} {
				for _, draws := range [][]api.Key{nil, {}, {{}}, {d.key(), d.key()}, make([]api.Key, 1000)} {
					for _, key := range []api.Key{{}, d.key(), api.Key(bytes.Repeat([]byte{255}, 32))} {
						sideOf(t, suite.Fast(nil), api.PipeSetup{Opener: opener, Prologue: prologue, Static: key, Remote: key, HasRemote: has, Draws: draws})
					}
				}
			}
			for _, engine := range engines() {
				sideOf(t, engine, api.PipeSetup{Opener: opener, HasRemote: has})
			}
		}
	}
}

// P21.1, S2: New of an opener begins its handshake, and logs that; of an answerer it logs nothing.
func TestNewLogs(t *testing.T) {
	for _, road := range allRoads() {
		both := watched(t, road, 2)
		if both[first].got.Total() == 0 || both[second].got.Total() != 0 {
			t.Errorf("road %d: %d and %d events", road, both[first].got.Total(), both[second].got.Total())
		}
	}
}

// P21.1: the road of an opener hangs on HasRemote alone, whatever Remote is; an answerer has none.
func TestNewRoads(t *testing.T) {
	d := draw(3)
	for _, remote := range []api.Key{{}, d.key(), publicOf(d.key())} {
		for _, x := range []struct {
			opener, has bool
			road        int
		}{{true, true, zero}, {true, false, full}, {false, true, none}, {false, false, none}} {
			o := sideOf(t, suite.Fast(nil), api.PipeSetup{Opener: x.opener, Remote: remote, HasRemote: x.has, Static: d.key(), Draws: []api.Key{d.key()}})
			if got := o.p.Sight().Road; got != x.road {
				t.Errorf("%+v: road %d", x, got)
			}
		}
	}
}

// P21.1: Remote and HasRemote of an answerer make no difference, nor does the Remote of an opener that does not have it: not in what goes over the line, nor in what is told, nor in the trace.
func TestNewNotLookedAt(t *testing.T) {
	t.Parallel()
	d := draw(4)
	for _, road := range allRoads() {
		plain := over(watched(t, road, 4))
		for _, has := range []bool{false, true} {
			for _, remote := range []api.Key{{}, d.key(), publicOf(setups(road, 4)[first].Static)} {
				u := setups(road, 4)
				u[second].Remote, u[second].HasRemote = remote, has
				if road == full {
					u[first].Remote = remote
				}
				both := over([2]*one{watchedOf(t, u[first]), watchedOf(t, u[second])})
				for side, o := range both {
					if o.p.Sight() != plain[side].p.Sight() || !trace.Same(o.got, plain[side].got) {
						t.Errorf("road %d, side %d: %+v", road, side, o.p.Sight())
					}
				}
			}
		}
	}
}

// P21.1, P21.2: draws are used from the first one on; those behind it make no difference, on no road.
func TestNewManyDraws(t *testing.T) {
	d := draw(5)
	for _, road := range allRoads() {
		plain, u := over(sides(t, road, 5)), setups(road, 5)
		for side := range u {
			u[side].Draws = append(u[side].Draws, d.key(), d.key())
		}
		for side, o := range over(pairOf(t, u)) {
			if o.p.Sight() != plain[side].p.Sight() {
				t.Errorf("road %d, side %d: %+v", road, side, o.p.Sight())
			}
		}
	}
}

// P21.1, P21.7: the lists of the PipeSetup may be written over behind New, at every place up to the end.
func TestNewWrittenOver(t *testing.T) {
	for _, road := range allRoads() {
		for place := range kindsOf[road] {
			lists := setups(road, 6)
			for side := range lists {
				lists[side] = roomy(lists[side])
			}
			both := pairOf(t, lists)
			for range place {
				pass(both, nil)
			}
			for _, u := range lists {
				fill(u.Prologue, 77)
				fill(u.Draws, api.Key{77})
			}
			over(both)
			say(both, first, []byte("hail"))
			say(both, second, []byte("ho"))
		}
	}
}

// P21.1, W6: two Pipes of one PipeSetup have nothing in common: used in turns, each answers as if it were alone.
func TestPipesInTurns(t *testing.T) {
	for _, road := range allRoads() {
		u := setups(road, 7)
		pairs := [2][2]*one{pairOf(t, u), pairOf(t, u)}
		for n := range 7 {
			for i, pair := range pairs {
				say(pair, turnOf(pair), bytes.Repeat([]byte{byte(n)}, 5*i+n))
				for _, o := range pairs[1-i] {
					o.hold("another one")
				}
			}
		}
		pairs[0][first].setNumbers(9, 8)
		for _, o := range pairs[1] {
			o.hold("another one")
		}
		third := placed(t, full, 1, 7)
		third[first].mustDieOf(api.ErrShort, []byte{2})
		say(pairs[1], first, nil)
	}
}

// W2: one Suite for two Pipes makes no difference either.
func TestNewOneSuite(t *testing.T) {
	for _, engine := range engines() {
		for _, road := range allRoads() {
			u := setups(road, 8)
			over([2]*one{sideOf(t, engine, u[first]), sideOf(t, engine, u[second])})
		}
	}
}

// W1: New answers a Pipe that can be used at once, also of a zero PipeSetup.
func TestNewZeroSetup(t *testing.T) {
	p, err := pipes.New(suite.Suite{}, api.PipeSetup{})
	if err != nil || p.Sight() != (api.PipeSight{}) {
		t.Fatalf("%v, %+v", err, p.Sight())
	}
	if _, err := p.Write(nil); err != api.ErrTurn {
		t.Errorf("Write: %v", err)
	}
	if _, err := p.Read(nil); err != api.ErrKind {
		t.Errorf("Read: %v", err)
	}
}
