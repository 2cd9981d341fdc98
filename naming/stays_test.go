package naming_test

import (
	"slices"
	"strings"
	"testing"
	"unsafe"

	"pintle/api"
	"pintle/naming"
)

// stretch is memory, from one address up to another.
type stretch struct{ from, to uintptr }

func listAt[T any](list []T) stretch {
	var one T
	from := uintptr(unsafe.Pointer(unsafe.SliceData(list)))
	return stretch{from, from + uintptr(cap(list))*unsafe.Sizeof(one)}
}

func textAt(text string) stretch {
	from := uintptr(unsafe.Pointer(unsafe.StringData(text)))
	return stretch{from, from + uintptr(len(text))}
}

// stretches are all lists of a pattern with their spare room, and its Name.
func stretches(p api.Pattern) []stretch {
	all := []stretch{textAt(p.Name), listAt(p.Before[0]), listAt(p.Before[1]), listAt(p.Lines)}
	for _, line := range p.Lines {
		all = append(all, listAt(line.Tokens))
	}
	return all
}

// mustBeDisjoint asks that no two stretches have a byte in common.
func mustBeDisjoint(t *testing.T, what string, all []stretch) {
	t.Helper()
	all = slices.DeleteFunc(all, func(one stretch) bool { return one.from == one.to })
	slices.SortFunc(all, func(a, b stretch) int {
		if a.from < b.from {
			return -1
		}
		return 1
	})
	for i := 1; i < len(all); i++ {
		if all[i].from < all[i-1].to {
			t.Fatalf("%s: memory is shared", what)
		}
	}
}

// spoil writes over all that a pattern's lists have, their spare room too.
func spoil(p api.Pattern) {
	lines := p.Lines[:cap(p.Lines)]
	for i, line := range lines {
		fill(line.Tokens)
		lines[i] = api.Line{From: 77}
	}
	fill(p.Before[0])
	fill(p.Before[1])
}

func fill(list []int) {
	for i := range list[:cap(list)] {
		list[:cap(list)][i] = 77
	}
}

// P16.4, W6: what Parse answers shares no memory with another answer, nor with the name, nor within itself.
func TestParsedIsNew(t *testing.T) {
	var all []stretch
	var kept []api.Pattern // so that no memory is used a second time
	for range 2 {
		for _, full := range fulls() {
			name := strings.Clone(front + full + back)
			one, err := naming.Parse(name)
			two, again := naming.Parse(name)
			if err != nil || again != nil {
				t.Fatalf("%q: %v, %v", name, err, again)
			}
			mustBeDisjoint(t, name, slices.Concat(stretches(one), stretches(two), []stretch{textAt(name)}))
			all = slices.Concat(all, stretches(one), stretches(two))
			kept = append(kept, one, two)
		}
	}
	mustBeDisjoint(t, "all answers", all)
	if len(kept) != 4*776 {
		t.Errorf("%d answers", len(kept))
	}
}

// P16.4, W6: to write in an answer, and in its room, changes no other one, an earlier one neither.
func TestSpoiled(t *testing.T) {
	for full, p := range taken() {
		want := modified(t, p)
		name := front + full + back
		one, _ := naming.Parse(name)
		two, _ := naming.Parse(name)
		spoil(one)
		if !same(two, want) {
			t.Fatalf("%q: %v, not %v", name, two, want)
		}
		mustTake(t, name, want)
	}
	for full, p := range taken() {
		mustTake(t, front+full+back, modified(t, p))
	}
}

// W6: a name that is a piece of other bytes is not kept: to write over them changes no answer.
func TestNameIsNotKept(t *testing.T) {
	for _, full := range some() {
		bytes := []byte(front + full + back)
		name := unsafe.String(&bytes[0], len(bytes))
		p, err := naming.Parse(name)
		if err != nil {
			t.Fatal(err)
		}
		middle := name[len(front) : len(name)-len(back)]
		printed, err := naming.Print(middle)
		if err != nil {
			t.Fatal(err)
		}
		if string(bytes) != front+full+back {
			t.Fatalf("the name is now %q", bytes)
		}
		clear(bytes)
		if want := modified(t, taken()[full]); !same(p, want) || printed != front+full+back {
			t.Errorf("%q: %v, %q", full, p, printed)
		}
	}
}

// W6: what Print answers shares no memory with the text, nor with another answer.
func TestPrintedIsNew(t *testing.T) {
	var all []stretch
	var kept []string
	for _, full := range fulls() {
		text := strings.Clone(full)
		one, err := naming.Print(text)
		two, again := naming.Print(text)
		if err != nil || again != nil {
			t.Fatalf("%q: %v, %v", full, err, again)
		}
		all = append(all, textAt(text), textAt(one), textAt(two))
		kept = append(kept, text, one, two)
	}
	mustBeDisjoint(t, "Print", all)
	if len(kept) != 3*776 {
		t.Errorf("%d texts", len(kept))
	}
}
