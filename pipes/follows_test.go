package pipes_test

import (
	"bytes"
	"fmt"
	"testing"

	"pintle/api"
	"pintle/pipes"
	"pintle/suite"
	"pintle/trace"
)

// agree plays a session of two Pipes as they are: over behind so many messages as the road has, and a few messages both ways behind it.
func agree(t *testing.T, what string, road int, u [2]api.PipeSetup, engines [2]suite.Suite, sizes func(most int) int) {
	t.Helper()
	var both [2]*pipes.Pipe
	for side := range both {
		p, err := pipes.New(engines[side], u[side])
		if err != nil {
			t.Fatalf("%s: %v", what, err)
		}
		both[side] = p
	}
	d := draw(len(what))
	hand := func(from, most int, lost bool) {
		t.Helper()
		payload := d.bytes(sizes(most))
		message, err := both[from].Write(payload)
		got, err2 := both[1-from].Read(message)
		if lost {
			payload = nil
		}
		if err != nil || err2 != nil || !bytes.Equal(got, payload) {
			t.Fatalf("%s: %v, %v, %d bytes of %d", what, err, err2, len(got), len(payload))
		}
	}
	for n, kind := range kindsOf[road] {
		if both[first].Sight().Sight.Over || both[second].Sight().Sight.Over {
			t.Fatalf("%s: over behind %d messages", what, n)
		}
		hand(n%2, limit-leastOf[kind], road == back && n == 0)
		if n == 0 && both[second].Sight().Road != road {
			t.Fatalf("%s: the answerer's road is %d", what, both[second].Sight().Road)
		}
	}
	a, b := both[first].Sight(), both[second].Sight()
	want := api.PipeSight{Road: road, Sight: api.Sight{Over: true, Hash: a.Sight.Hash, Remote: publicOf(u[second].Static), HasRemote: true}}
	if a != want {
		t.Fatalf("%s: %+v, not %+v", what, a, want)
	}
	want.Sight.Remote = publicOf(u[first].Static)
	if b != want {
		t.Fatalf("%s: %+v, not %+v", what, b, want)
	}
	for n := range 6 {
		hand(n%3%2, limit-16, false)
	}
	if a, b := both[first].Sight().Sight, both[second].Sight().Sight; a.Out != 4 || a.In != 2 || b.Out != a.In || b.In != a.Out {
		t.Fatalf("%s: %+v, %+v", what, a, b)
	}
}

// P21.5, P0.12: each road with each pair of engines, with a prologue and without one, with payloads of 0 bytes, at the limits, and between.
func TestAgree(t *testing.T) {
	for _, road := range allRoads() {
		for pair := range 16 {
			i, j := pair/4, pair%4
			t.Run(fmt.Sprintf("road %d, engines %d and %d", road, i, j), func(t *testing.T) {
				t.Parallel()
				d := draw(80 + pair)
				sizes := []func(most int) int{
					func(int) int { return 0 },
					func(int) int { return d.below(300) },
				}
				if 0 < i && i < 3 && 0 < j && j < 3 { // long ones take their time: once for each pair of engines
					sizes = append(sizes, func(most int) int { return most })
				}
				for _, prologue := range [][]byte{nil, []byte("ahoy")} {
					u := setups(road, d)
					u[first].Prologue, u[second].Prologue = prologue, bytes.Clone(prologue)
					for n, size := range sizes {
						agree(t, fmt.Sprint("sizes ", n), road, u, [2]suite.Suite{engines()[i], engines()[j]}, size)
					}
				}
			})
		}
	}
}

// P21.5: whatever the keys and draws are: noughts, ones, the same for all; and whatever the other key is that an opener has.
func TestAnyKeysAgree(t *testing.T) {
	t.Parallel()
	few := func(int) int { return 9 }
	for _, b := range []byte{0, 1, 0x7f, 0x80, 0xfe, 0xff} {
		key := api.Key(bytes.Repeat([]byte{b}, 32))
		for _, road := range allRoads() {
			u := setups(road, 81)
			for side := range u {
				u[side].Static, u[side].Draws = key, []api.Key{key}
			}
			if road == zero {
				u[first].Remote = publicOf(key)
			}
			agree(t, fmt.Sprint("all ", b), road, u, [2]suite.Suite{suite.Fast(nil), suite.Plain()}, few)
		}
		u := setups(back, 81)
		u[first].Remote = key // as a public one
		agree(t, fmt.Sprint("another key ", b), back, u, [2]suite.Suite{suite.Plain(), suite.Fast(nil)}, few)
	}
	u := setups(back, 81)
	for _, remote := range []api.Key{publicOf(u[first].Static), u[second].Static, u[first].Static} {
		u[first].Remote = remote
		agree(t, "another key", back, u, [2]suite.Suite{suite.Fast(nil), suite.Fast(nil)}, few)
	}
	right := publicOf(u[second].Static)
	for _, bit := range []int{0, 7, 100, 254, 255} {
		u[first].Remote = right
		u[first].Remote[bit/8] ^= 1 << (bit % 8)
		agree(t, "another bit", back, u, [2]suite.Suite{suite.Fast(nil), suite.Fast(nil)}, few)
	}
}

// P21.5: sessions of many drawn keys, prologues and payloads, held against the model and its trace, call by call.
func TestDrawnSessions(t *testing.T) {
	for part := range 6 {
		t.Run(fmt.Sprint("part ", part), func(t *testing.T) {
			t.Parallel()
			d := draw(82 + part)
			for range 6 {
				road := full + d.below(3)
				both := watched(t, road, draw(d.below(1<<30)))
				for range len(kindsOf[road]) {
					pass(both, d.bytes(d.below(200)))
				}
				for range 8 {
					say(both, d.below(2), d.bytes(d.below(200)))
				}
			}
		})
	}
}

// P21.5: messages that are on the way at the same time, of both ways, are read in their order.
func TestCrossing(t *testing.T) {
	for _, road := range allRoads() {
		both := over(sides(t, road, 83))
		d := draw(83)
		var onTheWay [2][][]byte
		for n := range 20 {
			from := d.below(2)
			onTheWay[from] = append(onTheWay[from], both[from].mustWrite([]byte{byte(n)}))
		}
		for from, messages := range onTheWay {
			for _, message := range messages {
				if _, err := both[1-from].read(message); err != nil {
					t.Fatal(err)
				}
			}
		}
	}
}

// P21.5: sides that do not have the same prologue come apart: on RoadFull at the second message, on RoadZero they fall back, and come apart there.
func TestApart(t *testing.T) {
	for _, change := range []func(list []byte) []byte{
		func(list []byte) []byte { return append(list, 0) },
		func(list []byte) []byte { return list[1:] },
		func(list []byte) []byte { return nil },
	} {
		for _, road := range allRoads() {
			u := setups(road, 84)
			u[second].Prologue = change(u[second].Prologue)
			both := pairOf(t, u)
			message := both[first].mustWrite(nil)
			both[second].mustRead(message, nil)
			both[first].mustDieOf(api.ErrStatic, both[second].mustWrite(nil))
		}
	}
}

// P0.4, P0.5: two sessions that are alike in all that is public have one trace, whatever the keys and payloads are.
func TestBlind(t *testing.T) {
	for _, road := range allRoads() {
		var traces [2][2]*trace.Recorder
		for i := range traces {
			both := watched(t, road, draw(85+i))
			for n := range len(kindsOf[road]) + 4 {
				say(both, n%len(kindsOf[road])%2, bytes.Repeat([]byte{byte(i * 99)}, 70*n))
			}
			traces[i] = [2]*trace.Recorder{both[first].got, both[second].got}
		}
		for side := range 2 {
			if !trace.Same(traces[0][side], traces[1][side]) || traces[0][side].Total() == 0 {
				t.Errorf("road %d, side %d: the traces hang on what is secret", road, side)
			}
		}
	}
}
