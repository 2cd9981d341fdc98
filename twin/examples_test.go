package twin_test

import (
	"testing"

	"pintle/api"
	"pintle/session"
	"pintle/suite"
	"pintle/twin"
)

// The examples of the chapter, from the first row on.
func TestExamples(t *testing.T) {
	u := api.Setup{Name: nameOf("NN"), Initiator: true, Draws: []api.Key{{1}}}
	some := []api.Step{{Kind: write}, {Kind: sight}}
	if got, err := twin.Play(0, u, some); err != api.ErrArg || len(got) != 0 {
		t.Errorf("%v, %v", got, err)
	}
	if got, err := twin.Play(api.Fast, api.Setup{Name: "?"}, some); err != api.ErrName || len(got) != 0 {
		t.Errorf("%v, %v", got, err)
	}
	if got, err := twin.Play(api.Plain, u, nil); err != nil || len(got) != 0 {
		t.Errorf("%v, %v", got, err)
	}
	s, err := session.New(suite.Plain(), u)
	if err != nil {
		t.Fatal(err)
	}
	got, err := twin.Play(api.Fast, u, []api.Step{{Kind: 9}, {Kind: api.StepSight}})
	if err != nil {
		t.Fatal(err)
	}
	mustAnswer(t, "a kind that is none, and the Sight", got, []api.Answer{{Err: api.ErrKind}, {Sight: s.Sight()}})
	if got, ok := twin.Both(api.Setup{Name: "?"}, some); !ok || len(got) != 0 {
		t.Errorf("%v, %v", got, ok)
	}
	if a, b := twin.Beside(func() int { return 1 }, func() int { return 2 }); a != 1 || b != 2 {
		t.Errorf("%d, %d", a, b)
	}
	if a, b := twin.Beside[int](nil, nil); a != 0 || b != 0 {
		t.Errorf("%d, %d", a, b)
	}
}
