package pattern_test

import (
	"slices"
	"strings"
	"testing"
	"unsafe"

	"pintle/api"
	"pintle/pattern"
)

// stretch is memory, from one address up to another.
type stretch struct{ from, to uintptr }

func listOf[T any](list []T) stretch {
	var one T
	from := uintptr(unsafe.Pointer(unsafe.SliceData(list)))
	return stretch{from, from + uintptr(cap(list))*unsafe.Sizeof(one)}
}

func textAt(text string) stretch {
	from := uintptr(unsafe.Pointer(unsafe.StringData(text)))
	return stretch{from, from + uintptr(len(text))}
}

// stretches are all lists of a pattern with their spare room, and its Name.
func stretches(p api.Pattern) []stretch {
	all := []stretch{textAt(p.Name), listOf(p.Before[0]), listOf(p.Before[1]), listOf(p.Lines)}
	for _, line := range p.Lines {
		all = append(all, listOf(line.Tokens))
	}
	return slices.DeleteFunc(all, func(one stretch) bool { return one.from == one.to })
}

// mustBeDisjoint asks that no two stretches have a byte in common.
func mustBeDisjoint(t *testing.T, what string, all []stretch) {
	t.Helper()
	slices.SortFunc(all, func(a, b stretch) int {
		if a.from < b.from {
			return -1
		}
		return 1
	})
	for i := 1; i < len(all); i++ {
		if all[i].from < all[i-1].to {
			t.Fatalf("%s: memory is shared", what)
		}
	}
}

// mustBeApart asks that no two lists of these patterns share memory, those of one pattern neither.
func mustBeApart(t *testing.T, what string, patterns ...api.Pattern) {
	t.Helper()
	var all []stretch
	for _, p := range patterns {
		all = append(all, stretches(p)...)
	}
	mustBeDisjoint(t, what, all)
}

// spoil writes over all that a pattern's lists have, their spare room too.
func spoil(p api.Pattern) {
	for _, line := range p.Lines[:cap(p.Lines)] {
		fill(line.Tokens)
	}
	fill(p.Before[0])
	fill(p.Before[1])
	for i := range p.Lines[:cap(p.Lines)] {
		p.Lines[:cap(p.Lines)][i] = api.Line{From: 77}
	}
}

func fill(list []int) {
	for i := range list[:cap(list)] {
		list[:cap(list)][i] = 77
	}
}

// roomy is the same pattern with marked room behind the end of each list.
func roomy(p api.Pattern) api.Pattern {
	room := func(list []int) []int { return append(slices.Clone(list), 91, 92, 93)[:len(list)] }
	out := api.Pattern{Name: strings.Clone(p.Name), Before: [2][]int{room(p.Before[0]), room(p.Before[1])}}
	for _, line := range p.Lines {
		out.Lines = append(out.Lines, api.Line{From: line.From, Tokens: room(line.Tokens)})
	}
	out.Lines = append(out.Lines, api.Line{From: 94, Tokens: []int{95}}, api.Line{From: 96})[:len(p.Lines)]
	return out
}

// mustBeWhole asks that a roomy pattern is what it was, with its room.
func mustBeWhole(t *testing.T, what string, got, was api.Pattern) {
	t.Helper()
	whole := func(list []int, n int) bool { return slices.Equal(list[n:n+3], []int{91, 92, 93}) }
	ok := same(got, was)
	for side := range 2 {
		ok = ok && whole(got.Before[side][:cap(got.Before[side])], len(was.Before[side]))
	}
	for i, line := range was.Lines {
		tokens := got.Lines[i].Tokens
		ok = ok && whole(tokens[:cap(tokens)], len(line.Tokens))
	}
	n := len(was.Lines)
	behind := got.Lines[n : n+2]
	if !ok || behind[0].From != 94 || !slices.Equal(behind[0].Tokens, []int{95}) || behind[1].From != 96 || behind[1].Tokens != nil {
		t.Fatalf("%s: %v is %v", what, was, got)
	}
}

// stayers are patterns that are taken and such as are refused, some for their shape.
func stayers(t *testing.T) []api.Pattern {
	t.Helper()
	d := draw(21)
	all := append(pool(t), api.Pattern{}, made("s, e", "", "e"), made("", "", "e; "), made("", "", "e, e"), made("", "", "psk"),
		made("", "", "e"+strings.Repeat(", psk", 24)), named("a b", made("", "", "e")), api.Pattern{Lines: []api.Line{{From: -1, Tokens: []int{9}}}})
	for range 300 {
		all = append(all, drawnPattern(&d))
	}
	return all
}

func wordLists() [][]string {
	return [][]string{nil, {"psk0"}, {"psk1"}, {"psk0", "psk1"}, {"fallback"}, {"fallback", "psk0"}, {"fallback", "psk0", "psk1", "psk2"},
		{"psk0", "fallback"}, {"psk0", "psk1", "psk2", "psk3"}, {"psk1", "psk1"}, {"psk0", "x"}, {"x"}}
}

// P15.9, W6: what is handed in, and the room behind its lists, is as it was, also where it is refused.
func TestHandedInStays(t *testing.T) {
	for _, p := range stayers(t) {
		q := roomy(p)
		pattern.Check(q)
		mustBeWhole(t, "Check", q, p)
		pattern.Print(q)
		mustBeWhole(t, "Print", q, p)
		for _, words := range wordLists() {
			room := append(slices.Clone(words), "one", "more")
			pattern.Modify(q, room[:len(words)]...)
			mustBeWhole(t, "Modify", q, p)
			if !slices.Equal(room, append(slices.Clone(words), "one", "more")) {
				t.Fatalf("Modify leaves the words %q", room)
			}
		}
	}
}

// P15.9, W6: what Modify answers shares no memory with what was handed in, nor with another answer, nor within itself.
func TestModifiedIsNew(t *testing.T) {
	for _, p := range pool(t) {
		for _, words := range wordLists() {
			q := roomy(p)
			one, err := pattern.Modify(q, words...)
			two, _ := pattern.Modify(q, words...)
			if err != nil {
				continue
			}
			want := copied(one)
			mustBeApart(t, "Modify", q, one, two)
			spoil(one)
			mustBeWhole(t, "what was handed in", q, p)
			mustAnswer(t, "another answer", two, nil, want, nil)
			spoil(q)
			mustAnswer(t, "behind writing in what was handed in", two, nil, want, nil)
		}
	}
}

// P15.9, W6: what Parse answers shares no memory with another answer, nor within itself, nor with the text.
func TestParsedIsNew(t *testing.T) {
	for _, text := range texts(t) {
		one, err := pattern.Parse(text)
		two, _ := pattern.Parse(text)
		if err != nil {
			t.Fatal(err)
		}
		mustBeApart(t, text, one, two)
		mustBeDisjoint(t, text, append(stretches(one), textAt(text)))
		want := copied(one)
		spoil(one)
		mustAnswer(t, text, two, nil, want, nil)
		three, err := pattern.Parse(text)
		mustAnswer(t, text, three, err, want, nil)
	}
}

// P15.9: lists that are one another's memory are taken as they stand, and the answer's are apart.
func TestSharedLists(t *testing.T) {
	tokens := []int{e, s, psk, e, ee, se}
	p := api.Pattern{Name: "Own", Lines: []api.Line{{From: first, Tokens: tokens[:2]}, {From: second, Tokens: tokens[3:]}}}
	mustModify(t, p, "psk0 psk1 psk2", named("Ownpsk0+psk1+psk2", made("", "", "psk, e, s, psk; e, ee, se, psk")), nil)
	keys := []int{e, s}
	q := api.Pattern{Name: "Own", Before: [2][]int{keys[:1], keys}, Lines: []api.Line{{From: first, Tokens: keys[1:]}, {From: second, Tokens: []int{ee, es, se}}}}
	mustModify(t, q, "fallback psk1", named("Ownfallback+psk1", begun(second, "e, s", "e, s", "ee, es, se, psk")), nil)
	got, err := pattern.Modify(q)
	mustAnswer(t, "without a word", got, err, q, nil)
	mustBeApart(t, "without a word", got)
	if !slices.Equal(tokens, []int{e, s, psk, e, ee, se}) || !slices.Equal(keys, []int{e, s}) {
		t.Errorf("%v, %v", tokens, keys)
	}
}
