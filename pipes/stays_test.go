package pipes_test

import (
	"bytes"
	"runtime"
	"slices"
	"strings"
	"testing"
	"unsafe"
	"weak"

	"pintle/api"
	"pintle/pipes"
	"pintle/suite"
)

// stretch is memory, from one address up to another.
type stretch struct{ from, to uintptr }

func listAt[T any](list []T) stretch {
	var one T
	from := uintptr(unsafe.Pointer(unsafe.SliceData(list)))
	return stretch{from, from + uintptr(cap(list))*unsafe.Sizeof(one)}
}

// mustBeDisjoint asks that no two stretches have a byte in common.
func mustBeDisjoint(t *testing.T, all []stretch) {
	t.Helper()
	all = slices.DeleteFunc(all, func(one stretch) bool { return one.from == one.to })
	slices.SortFunc(all, func(a, b stretch) int {
		if a.from < b.from {
			return -1
		}
		return 1
	})
	for i := 1; i < len(all); i++ {
		if all[i].from < all[i-1].to {
			t.Fatal("memory is shared")
		}
	}
}

func fill[T any](list []T, one T) {
	for i := range list[:cap(list)] {
		list[:cap(list)][i] = one
	}
}

// room is the same list in other memory, with marked items behind its end.
func room[T any](list []T, mark T) []T {
	return append(slices.Clone(list), mark, mark, mark)[:len(list)]
}

// whole tells whether a list is what it was, with the marks behind its end.
func whole[T comparable](list, was []T, mark T) bool {
	return slices.Equal(list, was) && slices.Equal(list[:len(was)+3][len(was):], []T{mark, mark, mark})
}

var markKey = api.Key{91, 92, 93}

// roomy is a PipeSetup in memory of its own, with marked room behind each list.
func roomy(u api.PipeSetup) api.PipeSetup {
	u.Prologue, u.Draws = room(u.Prologue, 91), room(u.Draws, markKey)
	return u
}

func mustBeWhole(t *testing.T, u, was api.PipeSetup) {
	t.Helper()
	if !whole(u.Prologue, was.Prologue, 91) || !whole(u.Draws, was.Draws, markKey) {
		t.Fatalf("%+v is %+v", was, u)
	}
}

// P21.7, W6: the lists of the PipeSetup, and the room behind them, are as they were behind each call, on each road.
func TestSetupStays(t *testing.T) {
	for _, road := range allRoads() {
		was := setups(road, 100)
		lists := [2]api.PipeSetup{roomy(was[first]), roomy(was[second])}
		both := pairOf(t, lists)
		for step := range len(kindsOf[road]) + 3 {
			both[step%2].mustRefuseWrite(api.ErrLong, limit)
			say(both, step%2, bytes.Repeat([]byte("hail"), step))
			mustBeWhole(t, lists[first], was[first])
			mustBeWhole(t, lists[second], was[second])
		}
	}
}

// P21.7, W6: payloads and messages stay as they were, with their room; and to write over them, and over what was answered, changes nothing behind: also not over the message of kind 4, on either side.
func TestPayloadsAndMessages(t *testing.T) {
	for _, road := range allRoads() {
		for seed := range draw(3) {
			d := 101 + seed
			both := sides(t, road, 101)
			for step := range len(kindsOf[road]) + 4 {
				from := step % 2
				payload := d.bytes(d.below(60))
				handed := room(payload, 91)
				message := both[from].mustWrite(handed)
				kept := room(message, 91)
				if !whole(handed, payload, 91) {
					t.Fatalf("road %d: the payload is %x, not %x", road, handed, payload)
				}
				fill(handed, 77)
				got, err := both[1-from].read(kept)
				if err != nil || !whole(kept, message, 91) {
					t.Fatalf("road %d: %v", road, err)
				}
				for _, list := range [][]byte{kept, message, got} {
					fill(list, 78)
				}
				both[first].hold("written over")
				both[second].hold("written over")
			}
		}
	}
}

// P21.7, W6: what is refused or fails stays as it was too, with its room, at every place.
func TestRefusedStay(t *testing.T) {
	t.Parallel()
	d := draw(102)
	for _, road := range allRoads() {
		for place := range len(kindsOf[road]) + 1 {
			for kind := range 8 {
				for _, n := range []int{1, 15, 16, 40, 200, limit, limit + 1} {
					if n >= limit && kind%3 > 0 {
						continue
					}
					for _, o := range placed(t, road, place, 102) {
						list := append([]byte{byte(kind)}, d.bytes(n-1)...)
						handed := room(list, 91)
						o.write(handed)
						o.read(handed)
						if !whole(handed, list, 91) {
							t.Fatalf("road %d, place %d: %d bytes are changed", road, place, n)
						}
					}
				}
			}
		}
	}
}

// P21.7, W6: what is answered is new memory, its room too: it shares none with what was handed in, nor with another answer.
func TestAnswersAreNew(t *testing.T) {
	var all []stretch
	var kept [][]byte // so that no memory is used a second time
	keep := func(list []byte) []byte {
		kept = append(kept, list)
		all = append(all, listAt(list))
		return list
	}
	for _, road := range allRoads() {
		for _, engine := range engines() {
			var both [2]*pipes.Pipe
			for side, was := range setups(road, 103) {
				u := roomy(was)
				all = append(all, listAt(u.Prologue), listAt(u.Draws))
				both[side], _ = pipes.New(engine, u)
				defer mustBeWhole(t, u, was)
			}
			for n := range len(kindsOf[road]) + 6 {
				payload := keep(room([]byte(strings.Repeat("hail ", n)), 91))
				message, err := both[n%2].Write(payload)
				got, err2 := both[1-n%2].Read(keep(message))
				if err != nil || err2 != nil || len(got) != len(payload) && message[0] != 4 {
					t.Fatal(err, err2)
				}
				keep(got)
			}
		}
	}
	mustBeDisjoint(t, all)
	if len(kept) != 3*4*(9+8+9) {
		t.Errorf("%d lists", len(kept))
	}
}

// P21.7: what a Pipe keeps of a message of kind 4 is its own: who writes over what it has answered, or was handed, at once, changes nothing of the road back.
func TestOpeningIsKept(t *testing.T) {
	both, message := opened(t, back, "hail", 104)
	handed := room(message, 91)
	fill(message, 79)
	both[second].mustFallBack(handed)
	fill(handed, 80)
	over(both)
	for _, o := range both {
		if x := o.p.Sight(); x.Road != back || !x.Sight.Over {
			t.Errorf("%+v", x)
		}
	}
}

// P21.7: what is handed in is not kept: behind each call, of each side and road, nothing holds the lists that were handed in or answered.
func TestNothingIsHeld(t *testing.T) {
	for _, road := range allRoads() {
		var both [2]*pipes.Pipe
		var held []weak.Pointer[byte]
		hold := func(list []byte) []byte {
			held = append(held, weak.Make(unsafe.SliceData(list)))
			return list
		}
		for side, u := range setups(road, 105) {
			u.Prologue = hold(bytes.Repeat([]byte("ahoy "), 20)) // long ones have memory of their own
			both[side], _ = pipes.New(suite.Fast(nil), u)
		}
		for n := range len(kindsOf[road]) + 2 {
			message, err := both[n%2].Write(hold(bytes.Repeat([]byte("hail "), 20)))
			if _, err2 := both[1-n%2].Read(hold(message)); err != nil || err2 != nil {
				t.Fatal(err, err2)
			}
			message = nil
			runtime.GC()
			for i, list := range held {
				if list.Value() != nil {
					t.Fatalf("road %d, message %d: list %d is kept", road, n, i)
				}
			}
		}
		runtime.KeepAlive(both)
	}
}
