package naming_test

import (
	"slices"
	"strconv"
	"strings"
	"sync"
	"testing"

	"pintle/api"
	"pintle/naming"
	"pintle/pattern"
)

// The two ends, and the limit, as the document writes them.
const (
	front = "Noise_"
	back  = "_25519_ChaChaPoly_BLAKE2s"
	limit = 255
)

// The names of the document's table, by how many messages they have.
const (
	ofOne   = "N K X"
	ofTwo   = "NN NK NX KN KK KX IN IK IX NK1 KK1 IK1"
	ofThree = "XN XK XX NX1 XK1 XX1 K1N K1K K1K1 K1X KX1 K1X1 I1N I1K I1K1 I1X IX1 I1X1"
	ofFour  = "X1N X1K X1K1 X1X X1X1"
)

// stays are those whose first message has an es: they do not fall back.
const stays = "N K X NK XK KK IK X1K K1K I1K"

// parted is a full name, taken apart.
type parted struct {
	base  string
	words []string
}

func (p parted) full() string { return p.base + strings.Join(p.words, "+") }

// bases are the names of the table, and how many messages each has.
var bases = sync.OnceValue(func() map[string]int {
	all := map[string]int{}
	for i, list := range []string{ofOne, ofTwo, ofThree, ofFour} {
		for _, name := range strings.Fields(list) {
			all[name] = i + 1
		}
	}
	return all
})

// taken is every full name that there is, 776 of them: the words rise, so that they come to an end.
var taken = sync.OnceValue(func() map[string]parted {
	all := map[string]parted{}
	add := func(base string, ahead []string, messages int) {
		for chosen := range 1 << (messages + 1) {
			words := slices.Clone(ahead)
			for n := range messages + 1 {
				if chosen>>n&1 == 1 {
					words = append(words, "psk"+strconv.Itoa(n))
				}
			}
			p := parted{base, words}
			all[p.full()] = p
		}
	}
	for base, messages := range bases() {
		add(base, nil, messages)
		if !slices.Contains(strings.Fields(stays), base) {
			add(base, []string{"fallback"}, messages-1)
		}
	}
	return all
})

// fulls are all of them in their order.
func fulls() []string {
	var all []string
	for full := range taken() {
		all = append(all, full)
	}
	slices.Sort(all)
	return all
}

// some are full names of all kinds, few enough to be turned about at every place.
func some() []string {
	return []string{"N", "X1K1", "XXpsk0", "IKpsk1+psk2", "X1X1fallback", "KNfallback+psk0", "I1X1fallback+psk0+psk2", "X1Npsk0+psk1+psk2+psk3+psk4"}
}

// isTaken tells whether Parse is to take a name, and what it has between its two ends.
func isTaken(name string) (parted, bool) {
	if len(name) < len(front)+len(back) || !strings.HasPrefix(name, front) || !strings.HasSuffix(name, back) {
		return parted{}, false
	}
	p, ok := taken()[name[len(front):len(name)-len(back)]]
	return p, ok
}

func same(a, b api.Pattern) bool {
	return a.Name == b.Name && slices.Equal(a.Before[0], b.Before[0]) && slices.Equal(a.Before[1], b.Before[1]) &&
		slices.EqualFunc(a.Lines, b.Lines, func(x, y api.Line) bool { return x.From == y.From && slices.Equal(x.Tokens, y.Tokens) })
}

// isZero tells whether there is nothing at all: beside an error a list may be nil or empty.
func isZero(p api.Pattern) bool { return same(p, api.Pattern{}) }

// modified is what Modify answers of a pattern of the table.
func modified(t *testing.T, p parted) api.Pattern {
	t.Helper()
	plain, ok := pattern.Find(p.base)
	if !ok {
		t.Fatalf("%q is not found", p.base)
	}
	q, err := pattern.Modify(plain, p.words...)
	if err != nil {
		t.Fatalf("%q %q: %v", p.base, p.words, err)
	}
	return q
}

// mustTake asks for the pattern of a name that is to be taken.
func mustTake(t *testing.T, name string, want api.Pattern) {
	t.Helper()
	if got, err := naming.Parse(name); err != nil || !same(got, want) {
		t.Fatalf("Parse(%q): %v, %v, not %v", name, got, err, want)
	}
}

// mustRefuse asks for ErrName, and for nothing beside it.
func mustRefuse(t *testing.T, name string) {
	t.Helper()
	if got, err := naming.Parse(name); err != api.ErrName || !isZero(got) {
		t.Fatalf("Parse(%q): %v, %v", name, got, err)
	}
	if _, ok := isTaken(name); ok {
		t.Fatalf("%q is to be taken", name)
	}
}

// mustParse holds Parse against what is to be taken, and tells whether it is.
func mustParse(t *testing.T, name string) bool {
	t.Helper()
	p, ok := isTaken(name)
	if ok {
		mustTake(t, name, modified(t, p))
	} else {
		mustRefuse(t, name)
	}
	return ok
}

// draw is numbers by a fixed rule, so that every run sees the same ones.
type draw uint64

func (d *draw) below(n int) int {
	*d = *d*6364136223846793005 + 1442695040888963407
	return int(uint64(*d)>>33) % n
}

func (d *draw) of(list []string) string { return list[d.below(len(list))] }
