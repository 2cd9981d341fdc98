package pipes_test

import (
	"testing"

	"pintle/api"
	"pintle/pipes"
	"pintle/suite"
)

// P21.4: Road, Turn, Over, Remote and HasRemote at every place, by hand, of both sides and all three roads; the numbers are 0 till it is over, and the hashes are alike where both have read the same.
func TestSightByHand(t *testing.T) {
	type seen struct {
		road, turn int
		over, has  bool
	}
	for road, places := range map[int][][2]seen{
		full: {
			{{full, 0, false, false}, {none, 0, false, false}},
			{{full, 1, false, false}, {full, 1, false, false}},
			{{full, 0, false, true}, {full, 0, false, false}},
			{{full, 0, true, true}, {full, 0, true, true}},
		},
		zero: {
			{{zero, 0, false, true}, {none, 0, false, false}},
			{{zero, 1, false, true}, {zero, 1, false, true}},
			{{zero, 0, true, true}, {zero, 0, true, true}},
		},
		back: {
			{{zero, 0, false, true}, {none, 0, false, false}},
			{{zero, 1, false, true}, {back, 1, false, false}},
			{{back, 0, false, true}, {back, 0, false, false}},
			{{back, 0, true, true}, {back, 0, true, true}},
		},
	} {
		u := setups(road, 70)
		both := watched(t, road, 70)
		for place, wants := range places {
			for side, want := range wants {
				x := api.PipeSight{Road: want.road, Sight: api.Sight{Turn: want.turn, Over: want.over, HasRemote: want.has}}
				if want.has {
					x.Sight.Remote = publicOf(u[1-side].Static)
				}
				if side == first && want.road == zero {
					x.Sight.Remote = u[first].Remote // what it was told, right or not
				}
				got := both[side].p.Sight()
				x.Sight.Hash = got.Sight.Hash
				if got != x || (got.Sight.Hash == api.Key{}) != (want.road == none) {
					t.Errorf("road %d, place %d, side %d: %+v, not %+v", road, place, side, got, x)
				}
			}
			if a, b := both[first].p.Sight(), both[second].p.Sight(); a.Road == b.Road && a.Sight.Hash != b.Sight.Hash {
				t.Errorf("road %d, place %d: two hashes", road, place)
			}
			if place < len(kindsOf[road]) {
				pass(both, []byte("hail"))
			}
		}
	}
}

// P21.4: in the midst of a message, when one side has written and the other not read it: each tells its own place.
func TestSightBetween(t *testing.T) {
	for _, road := range allRoads() {
		both := sides(t, road, 71)
		for place, kind := range kindsOf[road] {
			from := place % 2
			was := both[1-from].p.Sight()
			message := both[from].mustWrite(nil)
			x := both[from].p.Sight()
			isLast := place == len(kindsOf[road])-1
			if both[1-from].p.Sight() != was || x.Sight.Over != isLast || !isLast && x.Sight.Turn != 1-from {
				t.Errorf("road %d, the kind %d: %+v", road, kind, x)
			}
			both[1-from].mustRead(message, nil)
		}
	}
}

// P21.4: once it is over all but the numbers stays as it is, through messages, refused ones too; each number goes on by one with a message of its way.
func TestSightOver(t *testing.T) {
	for _, road := range allRoads() {
		both := over(sides(t, road, 72))
		want := [2]api.PipeSight{both[first].p.Sight(), both[second].p.Sight()}
		for side, x := range want {
			if !x.Sight.Over || x.Sight.Dead || x.Sight.Turn != 0 || x.Sight.Out != 0 || x.Sight.In != 0 || x.Sight.Hash != want[1-side].Sight.Hash || x.Road != road {
				t.Fatalf("road %d, side %d: %+v", road, side, x)
			}
		}
		for n := range uint64(4) {
			for from := range both {
				say(both, from, []byte("hail"))
				both[1-from].mustRefuseRead(api.ErrAuth, make([]byte, 16))
				want[from].Sight.Out, want[1-from].Sight.In = n+1, n+1
				for side, o := range both {
					if got := o.p.Sight(); got != want[side] {
						t.Fatalf("road %d, side %d: %+v, not %+v", road, side, got, want[side])
					}
				}
			}
		}
	}
}

// P21.4: a dead Pipe tells what it told ahead of the message that failed, but that it is dead: where the message was one of its road.
func TestSightDead(t *testing.T) {
	for _, at := range []place{{full, 1, first}, {full, 2, second}, {zero, 1, first}, {back, 2, second}} {
		kind := kindsOf[at.road][at.gone]
		for _, message := range [][]byte{messageOf(kind, 9), messageOf(kind, 97), messageOf(kind, limit)} {
			o := at.reach(t, 73)
			want := o.p.Sight()
			want.Sight.Dead = true
			o.read(message)
			for range 3 {
				if got := o.p.Sight(); got != want {
					t.Errorf("%v: %+v, not %+v", at, got, want)
				}
				o.mustBeDead()
			}
		}
	}
}

// P21.4, P21.3: where the message that failed began a road, the Pipe tells what that road's handshake told ahead of it: as one that has read nothing.
func TestSightDeadOnNewRoad(t *testing.T) {
	u := setups(full, 74)
	for kind, road := range map[byte]int{1: full, 4: zero} {
		o := sideOf(t, suite.Fast(nil), u[second])
		o.mustDieOf(api.ErrShort, messageOf(kind, 5))
		fresh := newModel(suite.Fast(nil), u[second])
		fresh.start(road, api.Setup{})
		if got, want := o.p.Sight(), (api.PipeSight{Road: road, Sight: api.Sight{Dead: true, Hash: fresh.h.Hash()}}); got != want {
			t.Errorf("the kind %d: %+v, not %+v", kind, got, want)
		}
	}
	both, message := opened(t, back, "hail", 74)
	both[second].mustFallBack(message)
	both[first].mustDieOf(api.ErrAuth, turned(both[second].mustWrite(nil), -1))
	begun := both[first].m.h.Hash()
	both, message = opened(t, back, "hail", 74)
	both[second].mustFallBack(message)
	if got := both[second].p.Sight().Sight.Hash; got != begun {
		t.Errorf("the hash %x, not %x", begun, got)
	}
	both[first].mustDieOf(api.ErrShort, []byte{6})
	if got, want := both[first].p.Sight(), (api.PipeSight{Road: back, Sight: api.Sight{Turn: second, Dead: true, Hash: begun}}); got != want {
		t.Errorf("%+v, not %+v", got, want)
	}
}

// P21.4: to ask changes nothing, however often, and logs nothing.
func TestSightAgain(t *testing.T) {
	for _, road := range allRoads() {
		both := watched(t, road, 75)
		for range 6 {
			for _, o := range both {
				for range 3 {
					total := o.got.Total()
					o.hold("Sight")
					if o.got.Total() != total {
						t.Fatal("a Sight is logged")
					}
				}
			}
			pass(both, []byte("hail"))
		}
	}
}

// asked are all calls of a Pipe that answer an error.
func asked(p *pipes.Pipe) []func() ([]byte, error) {
	all := []func() ([]byte, error){func() ([]byte, error) { return p.Write(nil) }, func() ([]byte, error) { return p.Read(nil) }}
	for _, n := range append(lengths(), limit-16, limit-15) {
		all = append(all, func() ([]byte, error) { return p.Write(make([]byte, n)) })
		for kind := range 9 {
			all = append(all, func() ([]byte, error) { return p.Read(messageOf(byte(kind), n)) })
		}
	}
	return all
}

// P21.4, chapter 21: a zero Pipe is dead, and all else that it tells is zero.
func TestZero(t *testing.T) {
	var p pipes.Pipe
	for range 2 {
		for i, call := range asked(&p) {
			if list, err := call(); err != api.ErrDead || len(list) != 0 {
				t.Errorf("call %d: %x, %v", i, list, err)
			}
			if got := p.Sight(); got != (api.PipeSight{Sight: api.Sight{Dead: true}}) {
				t.Errorf("call %d: %+v", i, got)
			}
		}
	}
}

// W8: of a nil Pipe what answers an error answers ErrArg, and the Sight is zero, not even dead.
func TestNil(t *testing.T) {
	var p *pipes.Pipe
	for i, call := range asked(p) {
		if list, err := call(); err != api.ErrArg || len(list) != 0 {
			t.Errorf("call %d: %x, %v", i, list, err)
		}
		if got := p.Sight(); got != (api.PipeSight{}) {
			t.Errorf("call %d: %+v", i, got)
		}
	}
}

// W8: of a Pipe that is copied as a value the copy goes on, if it alone is used, at every place.
func TestCopied(t *testing.T) {
	for _, road := range allRoads() {
		both := sides(t, road, 76)
		for range 7 {
			for _, o := range both {
				again := *o.p
				o.p = &again
				o.hold("a copy")
			}
			pass(both, []byte("hail"))
		}
	}
}
