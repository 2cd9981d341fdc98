package handshake_test

import (
	"bytes"
	"slices"
	"strings"
	"testing"
	"unsafe"

	"pintle/api"
	"pintle/handshake"
	"pintle/suite"
)

// stretch is memory, from one address up to another.
type stretch struct{ from, to uintptr }

func listAt[T any](list []T) stretch {
	var one T
	from := uintptr(unsafe.Pointer(unsafe.SliceData(list)))
	return stretch{from, from + uintptr(cap(list))*unsafe.Sizeof(one)}
}

// mustBeDisjoint asks that no two stretches have a byte in common.
func mustBeDisjoint(t *testing.T, what string, all []stretch) {
	t.Helper()
	all = slices.DeleteFunc(all, func(one stretch) bool { return one.from == one.to })
	slices.SortFunc(all, func(a, b stretch) int {
		if a.from < b.from {
			return -1
		}
		return 1
	})
	for i := 1; i < len(all); i++ {
		if all[i].from < all[i-1].to {
			t.Fatalf("%s: memory is shared", what)
		}
	}
}

func fill[T any](list []T, one T) {
	for i := range list[:cap(list)] {
		list[:cap(list)][i] = one
	}
}

// room is the same list in other memory, with marked items behind its end.
func room[T any](list []T, mark T) []T {
	return append(slices.Clone(list), mark, mark, mark)[:len(list)]
}

// whole tells whether a list is what it was, with the marks behind its end.
func whole[T comparable](list, was []T, mark T) bool {
	return slices.Equal(list, was) && slices.Equal(list[:len(was)+3][len(was):], []T{mark, mark, mark})
}

// handed is a pattern and a Setup in memory of their own, with marked room behind each list.
type handed struct {
	p, was  api.Pattern
	u, held api.Setup
}

var markKey = api.Key{91, 92, 93}

func roomy(p api.Pattern, u api.Setup) handed {
	x := handed{p: clonePattern(p), was: p, u: cloneSetup(u), held: u}
	for side := range x.p.Before {
		x.p.Before[side] = room(p.Before[side], 91)
	}
	for i := range x.p.Lines {
		x.p.Lines[i].Tokens = room(p.Lines[i].Tokens, 91)
	}
	x.p.Lines = append(x.p.Lines, api.Line{From: 94, Tokens: []int{95}}, api.Line{From: 96})[:len(p.Lines)]
	x.u.Prologue, x.u.Psks, x.u.Draws = room(u.Prologue, 91), room(u.Psks, markKey), room(u.Draws, markKey)
	return x
}

// mustBeWhole asks that all is what it was, with its room.
func (x handed) mustBeWhole(t *testing.T) {
	t.Helper()
	ok := whole(x.u.Prologue, x.held.Prologue, 91) && whole(x.u.Psks, x.held.Psks, markKey) && whole(x.u.Draws, x.held.Draws, markKey)
	for side := range x.p.Before {
		ok = ok && whole(x.p.Before[side], x.was.Before[side], 91)
	}
	for i, line := range x.was.Lines {
		ok = ok && x.p.Lines[i].From == line.From && whole(x.p.Lines[i].Tokens, line.Tokens, 91)
	}
	behind := x.p.Lines[:len(x.was.Lines)+2][len(x.was.Lines):]
	if !ok || behind[0].From != 94 || !slices.Equal(behind[0].Tokens, []int{95}) || behind[1].From != 96 || behind[1].Tokens != nil {
		t.Fatalf("%v, %v are %v, %v", x.was, x.held, x.p, x.u)
	}
}

// spoil writes over all lists, their room too.
func (x handed) spoil() {
	for _, line := range x.p.Lines {
		fill(line.Tokens, 77)
	}
	fill(x.p.Before[0], 77)
	fill(x.p.Before[1], 77)
	fill(x.p.Lines, api.Line{From: 77})
	fill(x.u.Prologue, 77)
	fill(x.u.Psks, api.Key{77})
	fill(x.u.Draws, api.Key{77})
}

// stretches are all lists with their room.
func (x handed) stretches() []stretch {
	all := []stretch{listAt(x.p.Before[0]), listAt(x.p.Before[1]), listAt(x.p.Lines), listAt(x.u.Prologue), listAt(x.u.Psks), listAt(x.u.Draws)}
	for _, line := range x.p.Lines {
		all = append(all, listAt(line.Tokens))
	}
	return all
}

// P18.13, W6: the lists of the pattern and of the Setup, and the room behind them, are as they were behind New, also a refused one, and behind each message.
func TestHandedInStays(t *testing.T) {
	inParts(t, append(tabled(), untabled()...), func(t *testing.T, i int, p api.Pattern) {
		var both [2]*one
		var lists [2]handed
		for side, u := range setups(p, 70) {
			lists[side] = roomy(p, u)
			both[side] = sideOf(t, suite.Fast(nil), suite.Fast(nil), lists[side].p, lists[side].u)
			lists[side].mustBeWhole(t)
		}
		for range p.Lines {
			pass(both, []byte("hail"))
			lists[first].mustBeWhole(t)
			lists[second].mustBeWhole(t)
		}
	})
	for _, patterns := range offenders() {
		for _, p := range patterns {
			x := roomy(p, setups(p, 71)[first])
			handshake.New(suite.Plain(), x.p, x.u)
			x.mustBeWhole(t)
		}
	}
	p := modified(t, "KK", "psk0")
	x := roomy(p, api.Setup{Prologue: []byte("ahoy"), Psks: make([]api.Key, 1)})
	if _, err := handshake.New(suite.Plain(), x.p, x.u); err != api.ErrKey {
		t.Fatal(err)
	}
	x.mustBeWhole(t)
}

// P18.13: whoever writes over the lists of p and u behind New changes nothing.
func TestListsWrittenOver(t *testing.T) {
	inParts(t, append(tabled(), untabled()...), func(t *testing.T, i int, p api.Pattern) {
		var both [2]*one
		for side, u := range setups(p, 72) {
			x := roomy(p, u)
			both[side] = sideOf(t, suite.Fast(nil), suite.Fast(nil), x.p, x.u)
			x.spoil()
			both[side].hold()
			both[side].p = p
		}
		for range p.Lines {
			both[first].size(5)
			pass(both, []byte("hail"))
		}
		both[first].split()
		both[second].split()
	})
}

// P18.13, W6: payloads and messages stay as they were, with their room, also those that are refused or fail; and to write over them, and over what was answered, changes nothing behind.
func TestPayloadsAndMessages(t *testing.T) {
	inParts(t, append(tabled(), untabled()...), func(t *testing.T, i int, p api.Pattern) {
		d := draw(73 + i)
		both := sides(t, p, 74)
		for range p.Lines {
			from := both[first].m.turn()
			payload := d.bytes(d.below(60))
			in := room(payload, 91)
			message := both[from].mustWrite(in)
			kept := room(message, 91)
			if !whole(in, payload, 91) {
				t.Fatalf("%v: the payload is %x, not %x", p, in, payload)
			}
			fill(in, 77)
			got, err := both[1-from].read(kept)
			if err != nil || !bytes.Equal(got, payload) || !whole(kept, message, 91) {
				t.Fatalf("%v: %v", p, err)
			}
			for _, list := range [][]byte{kept, message, got} {
				fill(list, 78)
			}
			both[first].hold()
			both[second].hold()
		}
	})
}

// W6: a message that fails stays as it was, with its room; what Met tells of it stays, if the message is written over.
func TestFailedMessageStays(t *testing.T) {
	for _, p := range fragile(t) {
		for message := range p.Lines {
			for _, want := range []error{api.ErrShort, api.ErrStatic, api.ErrAuth} {
				both := passed(t, p, 75, message)
				from := both[first].m.turn()
				wrong := failing(p, message, both[from].mustWrite([]byte("hail")), want)
				if wrong == nil {
					continue
				}
				in := room(wrong, 91)
				if _, err := both[1-from].read(in); err != want || !whole(in, wrong, 91) {
					t.Fatalf("%v, %v: %x, not %x", p, err, in, wrong)
				}
				fill(in, 77)
				both[1-from].hold()
			}
		}
	}
}

// P18.13, W6: what is answered is new memory, its room too: it shares none with what was handed in, nor with another answer.
func TestAnswersAreNew(t *testing.T) {
	var all []stretch
	var kept [][]byte // so that no memory is used a second time
	keep := func(list []byte) []byte {
		kept = append(kept, list)
		all = append(all, listAt(list))
		return list
	}
	for _, p := range append(tabled(), untabled()...) {
		var both [2]*handshake.State
		for side, u := range setups(p, 76) {
			x := roomy(p, u)
			all = append(all, x.stretches()...)
			both[side], _ = handshake.New(suite.Fast(nil), x.p, x.u)
			defer x.mustBeWhole(t)
		}
		for n := range p.Lines {
			from := both[first].Turn()
			payload := keep(room([]byte(strings.Repeat("hail ", n)), 91))
			message, err := both[from].Write(payload)
			got, err2 := both[1-from].Read(keep(message))
			if err != nil || err2 != nil {
				t.Fatal(err, err2)
			}
			keep(got)
		}
	}
	mustBeDisjoint(t, "Write and Read", all)
	if len(kept) < 300 {
		t.Errorf("%d lists", len(kept))
	}
}

// W6: to write over an answer, and its room, changes no earlier and no later one.
func TestAnswersSpoiled(t *testing.T) {
	p := modified(t, "X1X1", "psk0", "psk3")
	both, calm := sides(t, p, 77), sides(t, p, 77)
	for range p.Lines {
		from := both[first].m.turn()
		message := both[from].mustWrite([]byte("hail"))
		same := bytes.Clone(message)
		fill(message, 77)
		if want := calm[from].mustWrite([]byte("hail")); !bytes.Equal(same, want) {
			t.Fatalf("%x, not %x", same, want)
		}
		payload, _ := both[1-from].read(same)
		fill(payload, 77)
		calm[1-from].mustRead(same, []byte("hail"))
		if both[first].h.Hash() != calm[first].h.Hash() || both[second].h.Hash() != calm[second].h.Hash() {
			t.Fatal("the hash")
		}
	}
}

// P18.13: draws are used in their order, one for each own message that was written and in which an e stands; the others are left.
func TestDrawsInOrder(t *testing.T) {
	for _, name := range []string{"NN", "XX", "IK", "X1X1"} {
		p := modified(t, name)
		for _, more := range []int{0, 1, 5} {
			u := setups(p, 78)
			for side := range u {
				for i := range more {
					u[side].Draws = append(u[side].Draws, api.Key{byte(side), byte(i)})
				}
			}
			both := [2]*one{sideOf(t, suite.Fast(nil), suite.Fast(nil), p, u[first]), sideOf(t, suite.Fast(nil), suite.Fast(nil), p, u[second])}
			for range p.Lines {
				pass(both, nil)
			}
			for side := range both {
				if met, is := both[1-side].h.Met(); !is || met != publicOf(u[side].Draws[0]) {
					t.Errorf("%s, side %d: %x", name, side, met)
				}
			}
		}
	}
}

// P18.13: psks are used in the order in which the pattern takes them.
func TestPsksInOrder(t *testing.T) {
	p := modified(t, "NN", "psk0", "psk1", "psk2")
	u := setups(p, 79)
	slices.Reverse(u[second].Psks)
	both := [2]*one{sideOf(t, suite.Fast(nil), suite.Fast(nil), p, u[first]), sideOf(t, suite.Fast(nil), suite.Fast(nil), p, u[second])}
	if _, err := both[second].read(both[first].mustWrite(nil)); err != api.ErrAuth {
		t.Errorf("psks the other way round: %v", err)
	}
}

// P18.13, W6: two States of one pattern and one Setup have nothing in common.
func TestStatesInTurns(t *testing.T) {
	p := modified(t, "XX", "psk1", "psk3")
	u := setups(p, 80)
	var pairs [2][2]*one
	for i := range pairs {
		pairs[i] = [2]*one{sideOf(t, suite.Fast(nil), suite.Fast(nil), p, u[first]), sideOf(t, suite.Fast(nil), suite.Fast(nil), p, u[second])}
	}
	for n := range p.Lines {
		for i, pair := range pairs {
			pass(pair, []byte(strings.Repeat("x", 5*i+n)))
			for _, o := range pairs[1-i] {
				o.hold()
			}
		}
	}
	pairs[0][first].split()
	pairs[1][first].split()
}
