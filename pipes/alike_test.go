package pipes_test

import (
	"bytes"
	"fmt"
	"slices"
	"testing"

	"pintle/api"
	"pintle/pipes"
	"pintle/suite"
	"pintle/trace"
)

// script is what both sides on one engine answer to drawn calls, right ones and wrong ones, written down.
func script(road int, engine suite.Suite, seed draw) string {
	var b bytes.Buffer
	var both [2]*pipes.Pipe
	for side, u := range setups(road, seed) {
		both[side], _ = pipes.New(engine, u)
	}
	d := seed
	message := []byte{}
	for range 25 {
		side := d.below(2)
		if d.below(3) > 0 {
			side = both[second].Sight().Sight.Turn
		}
		switch d.below(8) {
		case 0, 1, 2, 3:
			m, err := both[side].Write(d.bytes(d.below(40)))
			fmt.Fprintf(&b, "%x %v\n", m, err)
			if err == nil {
				message = m
				payload, err := both[1-side].Read(m)
				fmt.Fprintf(&b, "%x %v\n", payload, err)
			}
		case 4:
			payload, err := both[side].Read(message)
			fmt.Fprintf(&b, "%x %v\n", payload, err)
		case 5, 6:
			wrong := d.bytes(1 + d.below(120))
			if wrong[0] %= 24; both[side].Sight().Sight.Over || d.below(4) == 0 {
				payload, err := both[side].Read(wrong)
				fmt.Fprintf(&b, "%x %v\n", payload, err)
			}
		default:
			_, err := both[side].Write(make([]byte, limit-16+d.below(3)))
			fmt.Fprintln(&b, err)
		}
		fmt.Fprintf(&b, "%+v\n%+v\n", both[first].Sight(), both[second].Sight())
	}
	return b.String()
}

// W2, P0.2: both engines, with a Recorder and without one, answer alike, call by call, those too that are refused or fail.
func TestEnginesAlike(t *testing.T) {
	for _, road := range allRoads() {
		for seed := range draw(6) {
			t.Run(fmt.Sprint("road ", road, ", script ", seed), func(t *testing.T) {
				t.Parallel()
				want := script(road, engines()[0], 110+seed)
				for n, engine := range engines() {
					if got := script(road, engine, 110+seed); got != want {
						t.Fatalf("engine %d:\n%s\nnot\n%s", n, got, want)
					}
				}
			})
		}
	}
}

// W2: two Pipes of one Recorder log one behind the other what each would log alone.
func TestOneRecorder(t *testing.T) {
	for _, road := range allRoads() {
		shared, u := trace.New(), setups(road, 111)
		a, _ := pipes.New(suite.Fast(shared), u[first])
		b, _ := pipes.New(suite.Fast(shared), u[second])
		both, alone := [2]*pipes.Pipe{a, b}, watched(t, road, 111)
		for n := range len(kindsOf[road]) + 2 {
			message, err := both[n%2].Write([]byte("hail"))
			if _, err2 := both[1-n%2].Read(message); err != nil || err2 != nil {
				t.Fatal(err, err2)
			}
			say(alone, n%2, []byte("hail"))
		}
		if got, want := shared.Total(), alone[first].got.Total()+alone[second].got.Total(); got != want {
			t.Errorf("road %d: %d events, not %d", road, got, want)
		}
	}
}

// named are the errors that may come of a Read, under way and once it is over.
func named(over bool) []error {
	if over {
		return []error{nil, api.ErrLong, api.ErrShort, api.ErrNonce, api.ErrAuth}
	}
	return []error{nil, api.ErrTurn, api.ErrLong, api.ErrKind, api.ErrShort, api.ErrStatic, api.ErrAuth}
}

// P0.10: any bytes as messages, at any place, are answered with one of the errors that the document says, or read.
func TestAnyBytes(t *testing.T) {
	for _, road := range allRoads() {
		for place := range len(kindsOf[road]) + 1 {
			t.Run(fmt.Sprint("road ", road, ", place ", place), func(t *testing.T) {
				t.Parallel()
				d := draw(112 + 4*road + place)
				for range 25 {
					for _, o := range placed(t, road, place, 112) {
						message := d.bytes([]int{d.below(20), d.below(200), limit - d.below(2), limit + 1}[d.below(4)])
						if len(message) > 0 && d.below(4) > 0 {
							message[0] %= 9
						}
						wasOver := o.m.over
						payload, err := o.read(message)
						if !slices.Contains(named(wasOver), err) || len(payload) > len(message) {
							t.Fatalf("%d bytes of %d, %v", len(payload), len(message), err)
						}
						o.write(d.bytes(d.below(9)))
					}
				}
			})
		}
	}
}

// P0.10: pieces of right messages, laid together anyhow, are read or refused too.
func TestAnyPieces(t *testing.T) {
	d := draw(113)
	for range 60 {
		road := full + d.below(3)
		both := sides(t, road, 113)
		pool := []byte{}
		for step := range d.below(len(kindsOf[road]) + 3) {
			message := both[step%2].mustWrite(d.bytes(d.below(30)))
			pool = append(pool, message...)
			if _, err := both[1-step%2].read(message); err != nil {
				t.Fatal(err)
			}
		}
		for _, o := range both {
			at := d.below(len(pool) + 1)
			wasOver := o.m.over
			if _, err := o.read(pool[at : at+d.below(len(pool)-at+1)]); !slices.Contains(named(wasOver), err) {
				t.Fatalf("road %d: %v", road, err)
			}
		}
	}
}
