package grade_test

import (
	"math"
	"strings"
	"testing"

	"pintle/api"
	"pintle/pattern"
)

// numbers are further messages of every kind: those that are taken, and those beyond both ends.
func numbers() []int {
	return []int{0, 1, 2, 3, limit - 1, limit, -1, -2, -limit, limit + 1, limit + 2, 128, 255, 256, 65536, 1 << 31, 1<<32 + 1, math.MinInt, math.MinInt + 1, math.MaxInt - 1, math.MaxInt}
}

func isTaken(more int) bool { return 0 <= more && more <= limit }

// offenders are patterns that are not valid, by the error of Check.
func offenders() map[error][]api.Pattern {
	long := api.Pattern{Lines: make([]api.Line, 100000)}
	return map[error][]api.Pattern{
		api.ErrInvalid: {
			{}, {Name: "XX"}, {Lines: []api.Line{{}}}, long,
			made("s, e", "", "e"), made("", "ee", "e"), made("e, e", "", "s"), made("", "", "e; "), made("", "", "; e"),
			made("", "", "e"+strings.Repeat(", psk", 24)),
			{Lines: []api.Line{{From: -1, Tokens: []int{e}}}}, {Lines: []api.Line{{From: 2, Tokens: []int{e}}}},
			{Lines: []api.Line{{From: math.MinInt, Tokens: []int{e}}}}, {Lines: []api.Line{{From: math.MaxInt, Tokens: []int{e}}}},
			{Lines: []api.Line{{From: first, Tokens: []int{e}}, {From: first, Tokens: []int{s}}}},
			{Lines: []api.Line{{From: second, Tokens: []int{e}}, {From: second, Tokens: []int{s}}}},
			{Lines: []api.Line{{From: first, Tokens: []int{0}}}}, {Lines: []api.Line{{From: first, Tokens: []int{8}}}},
			{Lines: []api.Line{{From: first, Tokens: []int{e, math.MinInt}}}}, {Lines: []api.Line{{From: first, Tokens: []int{e, math.MaxInt}}}},
			{Before: [2][]int{{9}, nil}, Lines: []api.Line{{From: first, Tokens: []int{e}}}},
		},
		api.ErrTwice:  {made("", "", "e, e"), made("s", "", "s"), made("", "s", "e, es; e, es, ee"), made("e", "e", "ee; ee"), begun(second, "", "e", "e")},
		api.ErrLacks:  {made("", "", "ee"), made("", "", "e; ee"), made("", "", "es, e"), made("s", "e", "ss"), begun(second, "e", "", "ee")},
		api.ErrUnsafe: {made("", "", "psk"), made("s", "", "e; e, se"), made("", "s", "e, es; e"), made("", "", "psk, s, e"), made("s", "s", "e, es, ss; e, ee"), begun(second, "e", "s", "es")},
	}
}

// P17.1: the error of Check, each of its errors, whatever the number is: it comes first.
func TestOffenders(t *testing.T) {
	all := offenders()
	if len(all) != 4 {
		t.Fatalf("%d errors", len(all))
	}
	for want, patterns := range all {
		for _, p := range patterns {
			if err := pattern.Check(p); err != want {
				t.Fatalf("Check(%v): %v, not %v", p, err, want)
			}
			for _, more := range numbers() {
				mustRefuse(t, p, more, want)
			}
		}
	}
}

// P17.1: ErrArg for a number below 0 and for one above MaxMore, of each pattern of the table and of others.
func TestNumbers(t *testing.T) {
	all := append(everyModified(t), made("", "", "e"), begun(second, "", "", "s"), begun(second, "e", "e", strings.Repeat("psk; ", 23)+"psk"))
	for _, p := range all {
		for _, more := range numbers() {
			if isTaken(more) {
				mustFollow(t, p, more)
			} else {
				mustRefuse(t, p, more, api.ErrArg)
			}
		}
	}
}

// P17.1: every number about both ends.
func TestEveryNumber(t *testing.T) {
	p := find(t, "XX")
	for more := -300; more <= 300; more++ {
		if !isTaken(more) {
			mustRefuse(t, p, more, api.ErrArg)
		} else if got := levels(t, p, more); len(got) != 3+more {
			t.Errorf("%d further messages: %d Grades", more, len(got))
		}
	}
}

// anyPattern is a pattern of any numbers, most of them small.
func anyPattern(d *draw) api.Pattern {
	number := func() int {
		if d.below(20) == 0 {
			return []int{math.MinInt, math.MaxInt, -1, 8, 64, 1 << 40}[d.below(6)]
		}
		return d.below(8)
	}
	list := func(n int) []int {
		var all []int
		for range n {
			all = append(all, number())
		}
		return all
	}
	p := api.Pattern{Before: [2][]int{list(d.below(3)), list(d.below(3))}}
	from := d.below(2)
	for range d.below(5) {
		p.Lines = append(p.Lines, api.Line{From: from, Tokens: list(1 + d.below(3))})
		if from = 1 - from; d.below(20) == 0 {
			from = number()
		}
	}
	return p
}

// P17.1, W1: patterns of any numbers have the error of Check or Grades, and none panics.
func TestAnyPattern(t *testing.T) {
	d := draw(18)
	count := map[error]int{}
	for range 60000 {
		p := anyPattern(&d)
		more := numbers()[d.below(len(numbers()))]
		err := pattern.Check(p)
		count[err]++
		switch {
		case err != nil:
			mustRefuse(t, p, more, err)
		case isTaken(more):
			mustFollow(t, p, more)
		default:
			mustRefuse(t, p, more, api.ErrArg)
		}
	}
	for _, err := range []error{nil, api.ErrInvalid, api.ErrTwice, api.ErrLacks, api.ErrUnsafe} {
		if count[err] < 50 {
			t.Errorf("%v: %d patterns", err, count[err])
		}
	}
}
