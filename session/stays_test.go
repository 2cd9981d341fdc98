package session_test

import (
	"bytes"
	"slices"
	"strings"
	"testing"
	"unsafe"

	"pintle/api"
	"pintle/session"
	"pintle/suite"
)

// stretch is memory, from one address up to another.
type stretch struct{ from, to uintptr }

func listAt[T any](list []T) stretch {
	var one T
	from := uintptr(unsafe.Pointer(unsafe.SliceData(list)))
	return stretch{from, from + uintptr(cap(list))*unsafe.Sizeof(one)}
}

// mustBeDisjoint asks that no two stretches have a byte in common.
func mustBeDisjoint(t *testing.T, all []stretch) {
	t.Helper()
	all = slices.DeleteFunc(all, func(one stretch) bool { return one.from == one.to })
	slices.SortFunc(all, func(a, b stretch) int {
		if a.from < b.from {
			return -1
		}
		return 1
	})
	for i := 1; i < len(all); i++ {
		if all[i].from < all[i-1].to {
			t.Fatal("memory is shared")
		}
	}
}

func fill[T any](list []T, one T) {
	for i := range list[:cap(list)] {
		list[:cap(list)][i] = one
	}
}

// room is the same list in other memory, with marked items behind its end.
func room[T any](list []T, mark T) []T {
	return append(slices.Clone(list), mark, mark, mark)[:len(list)]
}

// whole tells whether a list is what it was, with the marks behind its end.
func whole[T comparable](list, was []T, mark T) bool {
	return slices.Equal(list, was) && slices.Equal(list[:len(was)+3][len(was):], []T{mark, mark, mark})
}

var markKey = api.Key{91, 92, 93}

// roomy is a Setup in memory of its own, with marked room behind each list.
func roomy(u api.Setup) api.Setup {
	u.Prologue, u.Psks, u.Draws = room(u.Prologue, 91), room(u.Psks, markKey), room(u.Draws, markKey)
	return u
}

func mustBeWhole(t *testing.T, u, was api.Setup) {
	t.Helper()
	if !whole(u.Prologue, was.Prologue, 91) || !whole(u.Psks, was.Psks, markKey) || !whole(u.Draws, was.Draws, markKey) {
		t.Fatalf("%+v is %+v", was, u)
	}
}

// P19.9, W6: the lists of the Setup, and the room behind them, are as they were behind each call, also behind a New that is refused.
func TestSetupStays(t *testing.T) {
	inParts(t, append(tabled(), modified()...), func(t *testing.T, i int, full string) {
		was := setups(full, 80)
		lists := [2]api.Setup{roomy(was[first]), roomy(was[second])}
		both := [2]*one{sideOf(t, suite.Fast(nil), lists[first]), sideOf(t, suite.Fast(nil), lists[second])}
		for step := range messagesOf(t, full) + 2 {
			mustBeWhole(t, lists[first], was[first])
			mustBeWhole(t, lists[second], was[second])
			from := both[first].m.h.Turn()
			say(both, from, bytes.Repeat([]byte("hail"), step))
		}
	})
	for _, name := range []string{"NN", nameOf("KKpsk0"), nameOf("NN")} {
		was := api.Setup{Name: name, Prologue: []byte("ahoy"), Psks: make([]api.Key, 2), Draws: make([]api.Key, 1)}
		u := roomy(was)
		if _, err := session.New(suite.Plain(), u); err == nil {
			t.Fatal("not refused")
		}
		mustBeWhole(t, u, was)
	}
}

// P19.9: whoever writes over the lists of the Setup behind New changes nothing.
func TestSetupWrittenOver(t *testing.T) {
	inParts(t, append(tabled(), modified()...), func(t *testing.T, i int, full string) {
		var both [2]*one
		for side, u := range setups(full, 81) {
			u = roomy(u)
			spoiled := u
			o := &one{t: t, full: full}
			s, err := session.New(suite.Fast(nil), u)
			if err != nil {
				t.Fatal(err)
			}
			fill(spoiled.Prologue, 77)
			fill(spoiled.Psks, api.Key{77})
			fill(spoiled.Draws, api.Key{77})
			o.s = s
			o.m, _ = newModel(suite.Fast(nil), setups(full, 81)[side])
			o.hold("New")
			both[side] = o
		}
		over(both)
		say(both, first, []byte("hail"))
	})
}

// P19.9, W6: payloads and messages stay as they were, with their room; and to write over them, and over what was answered, changes nothing behind.
func TestPayloadsAndMessages(t *testing.T) {
	inParts(t, append(tabled(), modified()...), func(t *testing.T, i int, full string) {
		d := draw(82 + i)
		both := sides(t, full, 82)
		for range messagesOf(t, full) + 4 {
			from := both[first].m.h.Turn()
			payload := d.bytes(d.below(60))
			handed := room(payload, 91)
			message := both[from].mustWrite(handed)
			kept := room(message, 91)
			if !whole(handed, payload, 91) {
				t.Fatalf("%s: the payload is %x, not %x", full, handed, payload)
			}
			fill(handed, 77)
			got, err := both[1-from].read(kept)
			if err != nil || !bytes.Equal(got, payload) || !whole(kept, message, 91) {
				t.Fatalf("%s: %v", full, err)
			}
			for _, list := range [][]byte{kept, message, got} {
				fill(list, 78)
			}
			both[first].hold("written over")
			both[second].hold("written over")
		}
	})
}

// P19.9, W6: what is refused or fails stays as it was too, with its room, under way and behind the handshake.
func TestRefusedStay(t *testing.T) {
	d := draw(83)
	for _, full := range []string{"NN", "XX", "X"} {
		for place := range messagesOf(t, full) + 1 {
			for _, n := range []int{0, 3, 15, 16, 40, 200, limit - 16, limit, limit + 1} {
				both := sides(t, full, 83)
				for range place {
					pass(both, nil)
				}
				for _, o := range both {
					list := d.bytes(n)
					handed := room(list, 91)
					o.write(handed)
					o.read(handed)
					if !whole(handed, list, 91) {
						t.Fatalf("%s, place %d: %d bytes are changed", full, place, n)
					}
				}
			}
		}
	}
}

// P19.9, W6: what is answered is new memory, its room too: it shares none with what was handed in, nor with another answer.
func TestAnswersAreNew(t *testing.T) {
	var all []stretch
	var kept [][]byte // so that no memory is used a second time
	keep := func(list []byte) []byte {
		kept = append(kept, list)
		all = append(all, listAt(list))
		return list
	}
	for _, full := range append(tabled(), modified()...) {
		var both [2]*session.Session
		for side, u := range setups(full, 84) {
			was := u
			u = roomy(u)
			all = append(all, listAt(u.Prologue), listAt(u.Psks), listAt(u.Draws))
			both[side], _ = session.New(suite.Fast(nil), u)
			defer mustBeWhole(t, u, was)
		}
		for n := range messagesOf(t, full) + 4 {
			from := both[first].Sight().Turn
			payload := keep(room([]byte(strings.Repeat("hail ", n)), 91))
			message, err := both[from].Write(payload)
			got, err2 := both[1-from].Read(keep(message))
			if err != nil || err2 != nil || string(got) != string(payload) {
				t.Fatal(err, err2)
			}
			keep(got)
		}
	}
	mustBeDisjoint(t, all)
	if len(kept) < 900 {
		t.Errorf("%d lists", len(kept))
	}
}

// P19.9, W6: two Sessions of one Setup have nothing in common.
func TestSessionsInTurns(t *testing.T) {
	u := setups("XXpsk1+psk3", 85)
	var pairs [2][2]*one
	for i := range pairs {
		pairs[i] = [2]*one{sideOf(t, suite.Fast(nil), u[first]), sideOf(t, suite.Fast(nil), u[second])}
	}
	for n := range 8 {
		for i, pair := range pairs {
			say(pair, pair[first].m.h.Turn(), []byte(strings.Repeat("x", 5*i+n)))
			for _, o := range pairs[1-i] {
				o.hold("another one")
			}
		}
		if n > 3 {
			pairs[0][first].must("Rekey", pairs[0][first].rekey(in), nil)
			pairs[1][second].must("SetNonce", pairs[1][second].setNonce(out, uint64(n)), nil)
		}
	}
}
