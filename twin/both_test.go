package twin_test

import (
	"bytes"
	"fmt"
	"runtime"
	"slices"
	"strings"
	"testing"

	"pintle/api"
	"pintle/suite"
	"pintle/twin"
)

// mustAgree asks Both for what the Session answered, and for true.
func (r *role) mustAgree(t *testing.T) {
	t.Helper()
	got, ok := twin.Both(r.setup, r.steps)
	if !ok {
		t.Fatalf("Both of %s: false", r.setup.Name)
	}
	mustAnswer(t, "Both of "+r.setup.Name, got, r.want)
}

// P22.2, P22.5, P0.2: whole sessions of all 38 patterns, and of those with words, of both sides: the answers of Play of either engine, and true.
func TestBothWhole(t *testing.T) {
	inParts(t, append(tabled(), modified()...), func(t *testing.T, i int, full string) {
		for _, r := range whole(t, full, draw(20+i)) {
			r.mustAgree(t)
		}
	})
}

// P22.2, P22.5, P0.2: and steps anyhow, refused ones and failing ones.
func TestBothAnyhow(t *testing.T) {
	inParts(t, append(few(), modified()...), func(t *testing.T, i int, full string) {
		for seed := range draw(3) {
			for _, r := range anyhow(t, full, 21+89*seed+draw(i), 30) {
				r.mustAgree(t)
				for _, engine := range engines() {
					got, err := twin.Play(engine, r.setup, r.steps)
					both, ok := twin.Both(r.setup, r.steps)
					if err != nil || !ok {
						t.Fatal(err, ok)
					}
					mustAnswer(t, full, both, got)
				}
			}
		}
	})
}

// wrongs are what can be made of a right message: cut at its ends, turned at each of some places, longer, as long as may be, too long.
func wrongs(right []byte) [][]byte {
	all := [][]byte{nil, right[:len(right)-1], right[1:], append(bytes.Clone(right), 0), make([]byte, len(right)), make([]byte, limit), make([]byte, limit+1)}
	for _, n := range []int{1, 15, 16, 31, 32, 33, 47, 48, 63, 64, 79, 80, 95, 96} {
		if n < len(right) {
			all = append(all, right[:n])
			turned := bytes.Clone(right)
			turned[n] ^= 128
			all = append(all, turned)
		}
	}
	return all
}

// P22.2, P22.5: at every place each wrong message, and then the right one: one-way patterns, patterns with psks, either side.
func TestBothWrongMessages(t *testing.T) {
	inParts(t, []string{"NN", "XX", "IK", "N", "X", "Xpsk1", "IKpsk1+psk2", "XXfallback", "NNfallback+psk1"}, func(t *testing.T, i int, full string) {
		model := pair(t, full, 22)
		shakeHands(t, model, []byte("hail"))
		say(t, model, first, []byte("hail"))
		for _, of := range model {
			for place, step := range of.steps {
				if step.Kind != read {
					continue
				}
				for _, wrong := range wrongs(step.Data) {
					r := roleOf(t, suite.Fast(nil), of.setup)
					for _, ahead := range of.steps[:place] {
						r.do(ahead)
					}
					r.read(wrong)
					r.sight()
					r.read(step.Data)
					r.write([]byte("hail"))
					r.sight()
					r.mustAgree(t)
				}
			}
		}
	})
}

// P22.2, P22.5: whatever the keys are, those too that lead to nothing.
func TestBothAnyKeys(t *testing.T) {
	var edges []api.Key
	for _, b := range []byte{0, 1, 9, 0x7f, 0x80, 0xec, 0xed, 0xff} {
		edges = append(edges, api.Key{b}, api.Key{31: b}, api.Key(bytes.Repeat([]byte{b}, 32)))
	}
	inParts(t, []string{"NN", "KK", "IKpsk0", "X", "XXfallback"}, func(t *testing.T, i int, full string) {
		for n, key := range edges {
			u := setups(full, 23)
			for side := range u {
				u[side].Static, u[side].Draws = key, []api.Key{key}
				u[side].Former = edges[(n+1)%len(edges)]
				u[side].Remote, u[side].Ephemeral = key, edges[(n+5)%len(edges)] // of nobody's, as a rule
				for p := range u[side].Psks {
					u[side].Psks[p] = key
				}
				r := roleOf(t, suite.Fast(nil), u[side])
				r.write(key[:])
				r.sight()
				r.read(append(key[:], make([]byte, 80)...))
				r.write(nil)
				r.sight()
				r.mustAgree(t)
			}
		}
	})
}

// playing is how many goroutines are in Play at this time.
func playing() int {
	buf := make([]byte, 1<<20)
	n := 0
	for _, stack := range strings.Split(string(buf[:runtime.Stack(buf, true)]), "\n\n") {
		if strings.Contains(stack, "pintle/twin.Play(") {
			n++
		}
	}
	return n
}

// P22.2: both engines play at one time.
func TestBothAtOneTime(t *testing.T) {
	both := pair(t, "N", 25)
	for range 20 {
		both[first].write(make([]byte, limit-64))
	}
	for range 50 {
		ended := make(chan bool)
		go func() {
			_, ok := twin.Both(both[first].setup, both[first].steps)
			ended <- ok
		}()
		most := 0
		for running := true; running; {
			most = max(most, playing())
			select {
			case ok := <-ended:
				if running = false; !ok {
					t.Fatal("false")
				}
			default:
			}
		}
		if most == 2 {
			return
		}
	}
	t.Error("never two at one time")
}

// P22.2: a setup that is refused, and no step: no answers, and true.
func TestBothRefused(t *testing.T) {
	for i, row := range refused() {
		for _, steps := range scripts() {
			if got, ok := twin.Both(row.u, steps); !ok || len(got) != 0 {
				t.Errorf("setup %d: %d answers, %v", i, len(got), ok)
			}
		}
	}
	for _, steps := range [][]api.Step{nil, {}} {
		if got, ok := twin.Both(setups("NN", 24)[first], steps); !ok || len(got) != 0 {
			t.Errorf("%d answers, %v", len(got), ok)
		}
	}
}

// answersOf are some of each sort.
func answersOf() []api.Answer {
	return []api.Answer{
		{Data: []byte("hail")},
		{Err: api.ErrAuth},
		{},
		{Data: []byte{0}},
		{Sight: api.Sight{Turn: 1, Hash: api.Key{1}, Remote: api.Key{2}, HasRemote: true, Out: 3, In: 4}},
	}
}

// P22.2: answers that are the same, step by step and field by field: these, and true; a nil list is as an empty one.
func TestSameAnswers(t *testing.T) {
	empty := answersOf()
	empty[1].Data, empty[2].Data = []byte{}, []byte{}
	got, ok := twin.Agreed(answersOf(), nil, empty, nil)
	if !ok {
		t.Fatal("false")
	}
	mustAnswer(t, "the same", got, answersOf())
	for _, list := range [][]api.Answer{nil, {}} {
		if got, ok := twin.Agreed(list, nil, nil, nil); !ok || len(got) != 0 {
			t.Errorf("%v, %v", got, ok)
		}
	}
	if got, ok := twin.Agreed(nil, api.ErrName, nil, api.ErrName); !ok || len(got) != 0 {
		t.Errorf("%v, %v", got, ok)
	}
}

// P22.2: answers that differ, in whatever, wherever: none, and false.
func TestOtherAnswers(t *testing.T) {
	changes := []func(a *api.Answer){
		func(a *api.Answer) { a.Err = api.ErrShort },
		func(a *api.Answer) { a.Data = append(slices.Clone(a.Data), 0) },
		func(a *api.Answer) { a.Data = []byte("Hail") },
		func(a *api.Answer) { a.Sight.Turn = 5 },
		func(a *api.Answer) { a.Sight.Over = true },
		func(a *api.Answer) { a.Sight.Dead = true },
		func(a *api.Answer) { a.Sight.Hash[31]++ },
		func(a *api.Answer) { a.Sight.Remote[31]++ },
		func(a *api.Answer) { a.Sight.HasRemote = !a.Sight.HasRemote },
		func(a *api.Answer) { a.Sight.Out++ },
		func(a *api.Answer) { a.Sight.In++ },
	}
	differ := func(what string, a []api.Answer, aErr error, b []api.Answer, bErr error) {
		t.Helper()
		if got, ok := twin.Agreed(a, aErr, b, bErr); ok || len(got) != 0 {
			t.Errorf("%s: %d answers, %v", what, len(got), ok)
		}
		if got, ok := twin.Agreed(b, bErr, a, aErr); ok || len(got) != 0 {
			t.Errorf("%s, the other way: %d answers, %v", what, len(got), ok)
		}
	}
	for n, change := range changes {
		for step := range answersOf() {
			other := answersOf()
			change(&other[step])
			differ(fmt.Sprint("change ", n, " of step ", step), answersOf(), nil, other, nil)
		}
	}
	all := answersOf()
	differ("one fewer", all, nil, all[:len(all)-1], nil)
	differ("none", all[2:3], nil, nil, nil)
	differ("another order", all, nil, []api.Answer{all[1], all[0], all[2], all[3], all[4]}, nil)
	differ("refused", all, nil, nil, api.ErrName)
	differ("refused, without steps", nil, nil, nil, api.ErrKey)
	differ("refused otherwise", nil, api.ErrName, nil, api.ErrKey)
}
