package pattern_test

import (
	"iter"
	"slices"
	"strings"
	"testing"

	"pintle/api"
	"pintle/pattern"
)

// rows are the document's table: a name, what is known ahead, the messages.
const rows = `
N | responder s | e, es
K | initiator s, responder s | e, es, ss
X | responder s | e, es, s, ss
NN | | e; e, ee
NK | responder s | e, es; e, ee
NX | | e; e, ee, s, es
XN | | e; e, ee; s, se
XK | responder s | e, es; e, ee; s, se
XX | | e; e, ee, s, es; s, se
KN | initiator s | e; e, ee, se
KK | initiator s, responder s | e, es, ss; e, ee, se
KX | initiator s | e; e, ee, se, s, es
IN | | e, s; e, ee, se
IK | responder s | e, es, s, ss; e, ee, se
IX | | e, s; e, ee, se, s, es
NK1 | responder s | e; e, ee, es
NX1 | | e; e, ee, s; es
X1N | | e; e, ee; s; se
X1K | responder s | e, es; e, ee; s; se
XK1 | responder s | e; e, ee, es; s, se
X1K1 | responder s | e; e, ee, es; s; se
X1X | | e; e, ee, s, es; s; se
XX1 | | e; e, ee, s; es, s, se
X1X1 | | e; e, ee, s; es, s; se
K1N | initiator s | e; e, ee; se
K1K | initiator s, responder s | e, es; e, ee; se
KK1 | initiator s, responder s | e; e, ee, se, es
K1K1 | initiator s, responder s | e; e, ee, es; se
K1X | initiator s | e; e, ee, s, es; se
KX1 | initiator s | e; e, ee, se, s; es
K1X1 | initiator s | e; e, ee, s; se, es
I1N | | e, s; e, ee; se
I1K | responder s | e, es, s; e, ee; se
IK1 | responder s | e, s; e, ee, se, es
I1K1 | responder s | e, s; e, ee, es; se
I1X | | e, s; e, ee, s, es; se
IX1 | | e, s; e, ee, se, s; es
I1X1 | | e, s; e, ee, s; se, es
`

// table is the patterns of the document's table, by their names, the least first.
func table() []api.Pattern {
	var all []api.Pattern
	for row := range strings.Lines(strings.TrimSpace(rows)) {
		parts := strings.Split(strings.TrimSpace(row), "|")
		i, r := "", ""
		if strings.Contains(parts[1], "initiator s") {
			i = "s"
		}
		if strings.Contains(parts[1], "responder s") {
			r = "s"
		}
		all = append(all, named(strings.TrimSpace(parts[0]), made(i, r, strings.TrimSpace(parts[2]))))
	}
	slices.SortFunc(all, func(a, b api.Pattern) int { return strings.Compare(a.Name, b.Name) })
	return all
}

func mustAll(t *testing.T, what string, got []api.Pattern) {
	t.Helper()
	if !slices.EqualFunc(got, table(), same) {
		t.Fatalf("%s: %v", what, got)
	}
}

// P15.5: each name of the table is found, with all that stands in its row.
func TestFind(t *testing.T) {
	if len(table()) != 38 {
		t.Fatalf("%d rows", len(table()))
	}
	for range 2 {
		for _, want := range table() {
			got, ok := pattern.Find(want.Name)
			if !ok || !same(got, want) {
				t.Errorf("%s: %v, %v, not %v", want.Name, got, ok, want)
			}
		}
	}
}

// P15.5: other names are not found, and the answer beside false is the zero Pattern.
func TestFindOfOthers(t *testing.T) {
	isName := func(name string) bool {
		return slices.ContainsFunc(table(), func(p api.Pattern) bool { return p.Name == name })
	}
	mustMiss := func(name string) {
		t.Helper()
		if p, ok := pattern.Find(name); ok || !same(p, api.Pattern{}) {
			t.Errorf("%q: %v, %v", name, p, ok)
		}
	}
	for _, p := range table() {
		for _, more := range []string{"psk0", "psk3", "fallback", " ", "\n", ":", ":\n", "\x00", "+", "2", "1", "X", "K", "é"} {
			for _, name := range []string{p.Name + more, more + p.Name} {
				if !isName(name) {
					mustMiss(name)
				}
			}
		}
		mustMiss(strings.ToLower(p.Name))
		mustMiss(textOf(p))
		for at := range len(p.Name) {
			if name := p.Name[:at] + p.Name[at+1:]; !isName(name) {
				mustMiss(name)
			}
		}
	}
	for _, name := range []string{"", "XXpsk3", "X2", "I", "1", "II", "NI", "N1", "N1N", "NN1", "X1", "I1", "Own", "\xff", strings.Repeat("X", 1<<20)} {
		mustMiss(name)
	}
	eachList(4, 0, 5, func(list []int) {
		name := ""
		for _, n := range list {
			name += []string{"", "N", "K", "X", "I", "1"}[n]
		}
		if _, ok := pattern.Find(name); ok != isName(name) {
			t.Errorf("%q: %v", name, ok)
		}
	})
}

// P15.5: All in its order, as often as one likes, by one Seq or by others.
func TestAll(t *testing.T) {
	all := pattern.All()
	for range 3 {
		mustAll(t, "one Seq", slices.Collect(all))
		mustAll(t, "a new one", slices.Collect(pattern.All()))
	}
	names := []string{"I1K", "I1K1", "I1N", "I1X", "I1X1", "IK", "IK1", "IN", "IX", "IX1",
		"K", "K1K", "K1K1", "K1N", "K1X", "K1X1", "KK", "KK1", "KN", "KX", "KX1", "N", "NK", "NK1", "NN", "NX", "NX1",
		"X", "X1K", "X1K1", "X1N", "X1X", "X1X1", "XK", "XK1", "XN", "XX", "XX1"}
	at := 0
	for p := range all {
		if at >= len(names) || p.Name != names[at] {
			t.Fatalf("place %d: %s", at, p.Name)
		}
		at++
	}
}

// P15.5, W1: stopped at each place it hands on nothing more, and the next time it begins anew.
func TestAllStopped(t *testing.T) {
	all := pattern.All()
	for stop := range 40 {
		var got []api.Pattern
		all(func(p api.Pattern) bool {
			got = append(got, p)
			return len(got) <= stop
		})
		if want := table()[:min(stop+1, 38)]; !slices.EqualFunc(got, want, same) {
			t.Fatalf("stopped at %d: %v", stop, got)
		}
		for p := range all {
			if p.Name != "I1K" {
				t.Fatalf("behind a stop it begins with %s", p.Name)
			}
			break
		}
	}
	mustAll(t, "behind all stops", slices.Collect(all))
}

// P15.5: loops inside one another, of one Seq, and several at one time.
func TestAllInside(t *testing.T) {
	all := pattern.All()
	var outer []api.Pattern
	for p := range all {
		outer = append(outer, p)
		var inner []api.Pattern
		for q := range all {
			inner = append(inner, q)
			if q.Name == p.Name {
				break
			}
		}
		if !slices.EqualFunc(inner, outer, same) {
			t.Fatalf("inside %s: %v", p.Name, inner)
		}
	}
	mustAll(t, "the outer loop", outer)
	next, stop := iter.Pull(all)
	other, stopOther := iter.Pull(all)
	defer stop()
	defer stopOther()
	other()
	for i, want := range table() {
		p, ok := next()
		q, more := other()
		if !ok || !same(p, want) || more != (i < 37) || more && !same(q, table()[i+1]) {
			t.Fatalf("place %d: %v, %v", i, p, q)
		}
	}
	if _, ok := next(); ok {
		t.Error("it goes on behind its end")
	}
}

// P15.5, P15.9: what Find and All hand on is new memory each time: to write in it changes nothing.
func TestTableIsNew(t *testing.T) {
	var kept []api.Pattern
	for range 2 {
		for p := range pattern.All() {
			q := find(t, p.Name)
			kept = append(kept, p, q)
			mustBeApart(t, p.Name, kept[max(0, len(kept)-6):]...)
		}
	}
	mustBeApart(t, "all that was handed on", kept...)
	for p := range pattern.All() {
		spoil(p)
		spoil(find(t, p.Name))
	}
	mustAll(t, "behind writing in it", slices.Collect(pattern.All()))
	for _, p := range table() {
		if !same(find(t, p.Name), p) {
			t.Errorf("%s: %v", p.Name, find(t, p.Name))
		}
	}
	for i, p := range kept {
		if want := table()[i/2%38]; !same(p, want) {
			t.Fatalf("kept %d: %v", i, p)
		}
	}
}
