package grade_test

import (
	"slices"
	"strings"
	"testing"
	"unsafe"

	"pintle/api"
	"pintle/grade"
)

// stretch is memory, from one address up to another.
type stretch struct{ from, to uintptr }

func listAt[T any](list []T) stretch {
	var one T
	from := uintptr(unsafe.Pointer(unsafe.SliceData(list)))
	return stretch{from, from + uintptr(cap(list))*unsafe.Sizeof(one)}
}

// stretches are all lists of a pattern with their spare room.
func stretches(p api.Pattern) []stretch {
	all := []stretch{listAt(p.Before[0]), listAt(p.Before[1]), listAt(p.Lines)}
	for _, line := range p.Lines {
		all = append(all, listAt(line.Tokens))
	}
	return all
}

// mustBeDisjoint asks that no two stretches have a byte in common.
func mustBeDisjoint(t *testing.T, what string, all []stretch) {
	t.Helper()
	all = slices.DeleteFunc(all, func(one stretch) bool { return one.from == one.to })
	slices.SortFunc(all, func(a, b stretch) int {
		if a.from < b.from {
			return -1
		}
		return 1
	})
	for i := 1; i < len(all); i++ {
		if all[i].from < all[i-1].to {
			t.Fatalf("%s: memory is shared", what)
		}
	}
}

// spoil writes over all that a pattern's lists have, their spare room too.
func spoil(p api.Pattern) {
	for _, line := range p.Lines[:cap(p.Lines)] {
		fill(line.Tokens, 77)
	}
	fill(p.Before[0], 77)
	fill(p.Before[1], 77)
	fill(p.Lines, api.Line{From: 77})
}

func fill[T any](list []T, one T) {
	for i := range list[:cap(list)] {
		list[:cap(list)][i] = one
	}
}

// roomy is the same pattern in other memory, with marked room behind the end of each list.
func roomy(p api.Pattern) api.Pattern {
	room := func(list []int) []int { return append(slices.Clone(list), 91, 92, 93)[:len(list)] }
	out := api.Pattern{Name: strings.Clone(p.Name), Before: [2][]int{room(p.Before[0]), room(p.Before[1])}}
	for _, line := range p.Lines {
		out.Lines = append(out.Lines, api.Line{From: line.From, Tokens: room(line.Tokens)})
	}
	out.Lines = append(out.Lines, api.Line{From: 94, Tokens: []int{95}}, api.Line{From: 96})[:len(p.Lines)]
	return out
}

// mustBeWhole asks that a roomy pattern is what it was, with its room.
func mustBeWhole(t *testing.T, got, was api.Pattern) {
	t.Helper()
	whole := func(list []int, n int) bool { return slices.Equal(list[n:n+3], []int{91, 92, 93}) }
	ok := same(got, was)
	for side := range 2 {
		ok = ok && whole(got.Before[side][:cap(got.Before[side])], len(was.Before[side]))
	}
	for i, line := range was.Lines {
		tokens := got.Lines[i].Tokens
		ok = ok && whole(tokens[:cap(tokens)], len(line.Tokens))
	}
	n := len(was.Lines)
	behind := got.Lines[n : n+2]
	if !ok || behind[0].From != 94 || !slices.Equal(behind[0].Tokens, []int{95}) || behind[1].From != 96 || behind[1].Tokens != nil {
		t.Fatalf("%v is %v", was, got)
	}
}

// P17.2, W6: what is handed in, and the room behind its lists, is as it was, also where it is refused.
func TestHandedInStays(t *testing.T) {
	all := known(t)
	for _, patterns := range offenders() {
		all = append(all, patterns...)
	}
	for _, p := range all {
		q := roomy(p)
		for _, more := range []int{0, 1, limit, -1, limit + 1} {
			grade.Levels(q, more)
			mustBeWhole(t, q, p)
		}
	}
}

// P17.2, W6: an answer, its room too, shares no memory with another one, nor with what was handed in.
func TestAnswersAreNew(t *testing.T) {
	var all []stretch
	var kept [][]api.Grade // so that no memory is used a second time
	var handed []api.Pattern
	for _, p := range known(t) {
		q := roomy(p)
		handed = append(handed, q)
		all = append(all, stretches(q)...)
		for _, more := range []int{0, 1, 1, limit} {
			got := levels(t, q, more)
			kept = append(kept, got)
			all = append(all, listAt(got))
		}
	}
	mustBeDisjoint(t, "Levels", all)
	if len(kept) != 4*len(handed) {
		t.Errorf("%d answers", len(kept))
	}
}

// P17.2, W6: to write in an answer, and in its room, changes no other one, an earlier one neither, and not the pattern.
func TestAnswersSpoiled(t *testing.T) {
	for _, p := range known(t) {
		q := roomy(p)
		one, two := levels(t, q, 5), levels(t, q, 5)
		fill(one, api.Grade{From: 7, Source: 7, Dest: 7})
		mustBeWhole(t, q, p)
		if want := wanted(p, 5); !slices.Equal(two, want) {
			t.Fatalf("%v: %s, not %s", p, written(two), written(want))
		}
		mustFollow(t, q, 5)
		mustFollow(t, q, 6)
	}
}

// P17.2: what is asked again is answered alike, whatever was asked between.
func TestAskedAgain(t *testing.T) {
	all := known(t)
	d := draw(20)
	for _, p := range all {
		mustFollow(t, p, 3)
		mustFollow(t, all[d.below(len(all))], d.below(limit+1))
		grade.Levels(api.Pattern{}, 3)
		grade.Levels(p, -1)
		mustFollow(t, p, 3)
	}
	for range 3 {
		for _, p := range all {
			mustFollow(t, p, 2)
		}
	}
}

// P17.2: the lists that were handed in may change: the answer stays, and the same pattern in other memory is answered alike.
func TestListsChangeSince(t *testing.T) {
	for _, p := range known(t) {
		q := roomy(p)
		got := levels(t, q, 4)
		spoil(q)
		if want := wanted(p, 4); !slices.Equal(got, want) {
			t.Fatalf("%v: %s, not %s", p, written(got), written(want))
		}
		mustRefuse(t, q, 4, api.ErrInvalid)
		mustFollow(t, roomy(p), 4)
	}
}

// P17.2: a list of the same memory and the same name that has turned into another pattern is answered as that one.
func TestSameMemory(t *testing.T) {
	line := []int{e, es, s, ss}
	back := []int{e, ee, se}
	p := api.Pattern{Name: "IK", Before: [2][]int{nil, {s}}, Lines: []api.Line{{From: first, Tokens: line}, {From: second, Tokens: back}}}
	mustBe(t, p, 2, "i 1 2, r 2 4, i 2 5, r 2 5")
	line[3] = psk
	mustBe(t, p, 2, "i 0 2, r 2 3, i 2 5, r 2 5")
	copy(line, []int{e, s, psk, psk})
	mustBe(t, p, 2, "i 0 0, r 0 3, i 2 1, r 0 5")
	back[2] = es
	mustBe(t, p, 2, "i 0 0, r 2 1, i 0 5, r 2 1")
	back[1] = psk
	mustRefuse(t, p, 2, api.ErrUnsafe)
}

// P17.2: lists that are one another's memory are taken as they stand.
func TestSharedLists(t *testing.T) {
	tokens := []int{e, s, psk, e, ee, se}
	p := api.Pattern{Lines: []api.Line{{From: first, Tokens: tokens[:2]}, {From: second, Tokens: tokens[3:]}}}
	mustBe(t, p, 2, "i 0 0, r 0 3, i 2 1, r 0 5")
	keys := []int{e, s}
	q := api.Pattern{Before: [2][]int{keys, keys}, Lines: []api.Line{{From: second, Tokens: []int{ee, es, se, ss}}}}
	mustBe(t, q, 1, "r 2 3, i 2 5")
	if !slices.Equal(tokens, []int{e, s, psk, e, ee, se}) || !slices.Equal(keys, []int{e, s}) {
		t.Errorf("%v, %v", tokens, keys)
	}
}
