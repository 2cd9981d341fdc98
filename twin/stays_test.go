package twin_test

import (
	"bytes"
	"fmt"
	"slices"
	"testing"
	"unsafe"

	"pintle/api"
	"pintle/twin"
)

// stretch is memory, from one address up to another.
type stretch struct{ from, to uintptr }

func listAt[T any](list []T) stretch {
	var one T
	from := uintptr(unsafe.Pointer(unsafe.SliceData(list)))
	return stretch{from, from + uintptr(cap(list))*unsafe.Sizeof(one)}
}

// mustBeDisjoint asks that no two stretches have a byte in common.
func mustBeDisjoint(t *testing.T, all []stretch) {
	t.Helper()
	all = slices.DeleteFunc(slices.Clone(all), func(one stretch) bool { return one.from == one.to })
	slices.SortFunc(all, func(a, b stretch) int {
		if a.from < b.from {
			return -1
		}
		return 1
	})
	for i := 1; i < len(all); i++ {
		if all[i].from < all[i-1].to {
			t.Fatal("memory is shared")
		}
	}
}

// fill writes over a list and over all the room behind it.
func fill[T any](list []T, one T) {
	for i := range list[:cap(list)] {
		list[:cap(list)][i] = one
	}
}

// room is the same list in other memory, with marked items behind its end.
func room[T any](list []T, mark T) []T {
	return append(slices.Clone(list), mark, mark, mark)[:len(list)]
}

// stays tells whether a list is what it was, with the marks behind its end.
func stays[T comparable](list, was []T, mark T) bool {
	return slices.Equal(list, was) && slices.Equal(list[:len(was)+3][len(was):], []T{mark, mark, mark})
}

var (
	markKey  = api.Key{91, 92, 93}
	markStep = api.Step{Kind: 91, Way: 92, Number: 93}
)

// handed is what is handed in, in memory of its own, with marked room behind each list.
type handed struct {
	u     api.Setup
	steps []api.Step
}

func handedOf(r *role) handed {
	h := handed{r.setup, room(r.steps, markStep)}
	h.u.Prologue, h.u.Psks, h.u.Draws = room(h.u.Prologue, 91), room(h.u.Psks, markKey), room(h.u.Draws, markKey)
	for i := range h.steps {
		h.steps[i].Data = room(h.steps[i].Data, 91)
	}
	return h
}

// mustStay asks that all of it is as it was.
func (h handed) mustStay(t *testing.T, what string, r *role) {
	t.Helper()
	if !stays(h.u.Prologue, r.setup.Prologue, 91) || !stays(h.u.Psks, r.setup.Psks, markKey) || !stays(h.u.Draws, r.setup.Draws, markKey) {
		t.Fatalf("%s: the lists of the setup of %s are changed", what, r.setup.Name)
	}
	for i, step := range h.steps {
		was := r.steps[i]
		if step.Kind != was.Kind || step.Way != was.Way || step.Number != was.Number || !stays(step.Data, was.Data, 91) {
			t.Fatalf("%s: step %d of %s is changed", what, i, r.setup.Name)
		}
	}
	for _, step := range h.steps[:len(r.steps)+3][len(r.steps):] {
		if step.Kind != markStep.Kind || step.Way != markStep.Way || step.Number != markStep.Number || step.Data != nil {
			t.Fatalf("%s: the room behind the steps of %s is changed", what, r.setup.Name)
		}
	}
}

// spoil writes over all of it.
func (h handed) spoil() {
	for _, step := range h.steps {
		fill(step.Data, 77)
	}
	fill(h.steps, api.Step{Kind: sight, Data: []byte{77}})
	fill(h.u.Prologue, 77)
	fill(h.u.Psks, api.Key{77})
	fill(h.u.Draws, api.Key{77})
}

// stretches are where all of it stands.
func (h handed) stretches() []stretch {
	all := []stretch{listAt(h.steps), listAt(h.u.Prologue), listAt(h.u.Psks), listAt(h.u.Draws)}
	for _, step := range h.steps {
		all = append(all, listAt(step.Data))
	}
	return all
}

// answered are where all lists of an answer stand, their room too.
func answered(answers []api.Answer) []stretch {
	all := []stretch{listAt(answers)}
	for _, a := range answers {
		all = append(all, listAt(a.Data))
	}
	return all
}

// calls are those of the face that play a script.
func calls() map[string]func(u api.Setup, steps []api.Step) ([]api.Answer, []api.Run) {
	play := func(engine int) func(u api.Setup, steps []api.Step) ([]api.Answer, []api.Run) {
		return func(u api.Setup, steps []api.Step) ([]api.Answer, []api.Run) {
			answers, _ := twin.Play(engine, u, steps)
			return answers, nil
		}
	}
	return map[string]func(u api.Setup, steps []api.Step) ([]api.Answer, []api.Run){
		"Play(Fast)":  play(api.Fast),
		"Play(Plain)": play(api.Plain),
		"Play(0)":     play(0),
		"Both": func(u api.Setup, steps []api.Step) ([]api.Answer, []api.Run) {
			answers, _ := twin.Both(u, steps)
			return answers, nil
		},
		"Traced": func(u api.Setup, steps []api.Step) ([]api.Answer, []api.Run) {
			answers, runs, _ := twin.Traced(u, steps)
			return answers, runs
		},
	}
}

// P22.6, W6: the lists of the setup and of the steps are as they were behind each call, their room too; of steps that are refused and that fail as well.
func TestHandedInStays(t *testing.T) {
	inParts(t, append(few(), modified()...), func(t *testing.T, i int, full string) {
		for _, r := range append(pairOf(whole(t, full, draw(60+i))), pairOf(anyhow(t, full, draw(60+i), 20))...) {
			for what, call := range calls() {
				h := handedOf(r)
				call(h.u, h.steps)
				h.mustStay(t, what, r)
			}
		}
	})
}

// P22.6, W6: also where the setup is refused.
func TestHandedInStaysRefused(t *testing.T) {
	for _, row := range refused() {
		r := &role{setup: row.u, steps: []api.Step{{Kind: write, Data: []byte("hail")}, {Kind: sight}}}
		for what, call := range calls() {
			h := handedOf(r)
			call(h.u, h.steps)
			h.mustStay(t, what, r)
		}
	}
}

// P22.6: whoever writes over all that was handed in changes nothing of what was answered, nor of what comes behind it.
func TestHandedInWrittenOver(t *testing.T) {
	inParts(t, few(), func(t *testing.T, i int, full string) {
		for _, r := range append(pairOf(whole(t, full, draw(61+i))), pairOf(anyhow(t, full, draw(61+i), 20))...) {
			for what, call := range calls() {
				if what == "Play(0)" {
					continue
				}
				h := handedOf(r)
				got, runs := call(h.u, h.steps)
				was := slices.Clone(runs)
				h.spoil()
				mustAnswer(t, what, got, r.want)
				mustRun(t, what, runs, was)
				h = handedOf(r)
				got, runs = call(h.u, h.steps)
				mustAnswer(t, what+" once more", got, r.want)
				mustRun(t, what+" once more", runs, was)
			}
		}
	})
}

// P22.6: whoever writes over all that was answered, its room too, changes nothing of what was handed in, nor of what comes behind it.
func TestAnsweredWrittenOver(t *testing.T) {
	inParts(t, few(), func(t *testing.T, i int, full string) {
		for _, r := range whole(t, full, draw(62+i)) {
			for what, call := range calls() {
				if what == "Play(0)" {
					continue
				}
				h := handedOf(r)
				for range 2 {
					got, runs := call(h.u, h.steps)
					mustAnswer(t, what, got, r.want)
					for _, a := range got {
						fill(a.Data, 77)
					}
					fill(got, api.Answer{Err: api.ErrKind})
					fill(runs, api.Run{})
					h.mustStay(t, what, r)
				}
			}
		}
	})
}

// P22.6: to write over one list of an answer leaves the others.
func TestAnsweredLists(t *testing.T) {
	for _, full := range []string{"XX", "Npsk0"} {
		for _, r := range whole(t, full, 63) {
			for what, call := range calls() {
				got, _ := call(r.setup, r.steps)
				for i, a := range got {
					fill(a.Data, 77)
					for n, other := range got[i+1:] {
						if !bytes.Equal(other.Data, r.want[i+1+n].Data) {
							t.Fatalf("%s of %s: the lists of the steps %d and %d share memory", what, full, i, i+1+n)
						}
					}
				}
			}
		}
	}
}

// P22.6, W6: what is answered is new memory, its room too: it shares none with what was handed in nor with another answer, and no two lists of one answer share any.
func TestAnswersAreNew(t *testing.T) {
	var all []stretch
	var kept []any // so that no memory is used a second time
	for i, full := range append(few(), modified()...) {
		for _, r := range whole(t, full, draw(64+i)) {
			for range 2 {
				h := handedOf(r)
				all, kept = append(all, h.stretches()...), append(kept, h)
				for _, call := range calls() {
					got, runs := call(h.u, h.steps)
					all, kept = append(append(all, answered(got)...), listAt(runs)), append(kept, got, runs)
				}
			}
		}
	}
	mustBeDisjoint(t, all)
	if len(kept) < 500 || len(all) < 5000 {
		t.Errorf("%d, %d lists", len(kept), len(all))
	}
}

// P22.6: lists that share memory where they are handed in do not where they are answered.
func TestSharedWhereHandedIn(t *testing.T) {
	list := bytes.Repeat([]byte("hail"), 40)
	r := pair(t, "N", 65)[first]
	for n := range 12 {
		r.write(list[n : 3*n])
		r.steps[n].Data = list[n : 3*n]
	}
	for what, call := range calls() {
		if what == "Play(0)" {
			continue
		}
		got, runs := call(r.setup, r.steps)
		mustAnswer(t, what, got, r.want)
		mustBeDisjoint(t, append(answered(got), listAt(runs), listAt(list), listAt(r.steps)))
		if string(list) != string(bytes.Repeat([]byte("hail"), 40)) {
			t.Fatalf("%s: the payload is changed", what)
		}
	}
}

// P22.6: to read a message and a part of it out of one list, the prologue among it, changes none of it.
func TestOneListForAll(t *testing.T) {
	message := make([]byte, 120)
	for i := range message {
		message[i] = byte(i)
	}
	was := bytes.Clone(message)
	u := api.Setup{Name: nameOf("NN"), Prologue: message[10:50], Draws: []api.Key{{5}}}
	steps := []api.Step{{Kind: read, Data: message[:60]}, {Kind: write, Data: message}, {Kind: read, Data: message[3:100]}, {Kind: write, Data: message[60:]}}
	for what, call := range calls() {
		got, _ := call(u, steps)
		if !bytes.Equal(message, was) {
			t.Fatalf("%s: the list is changed", what)
		}
		mustBeDisjoint(t, append(answered(got), listAt(message)))
		if text := fmt.Sprint(errorsOf(got)); what != "Play(0)" && text != fmt.Sprint([]error{nil, nil, api.ErrAuth, nil}) {
			t.Errorf("%s: %s", what, text)
		}
	}
}
