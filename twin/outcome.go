package twin

import (
	"bytes"
	"slices"

	"pintle/api"
)

// outcome is all that comes of a script on one engine.
type outcome struct {
	answers []api.Answer
	err     error
}

func outcomeOf(answers []api.Answer, err error) outcome { return outcome{answers, err} }

// agreed is what two engines both answer, and whether they do.
func agreed(a, b outcome) ([]api.Answer, bool) {
	if a.err != b.err || !slices.EqualFunc(a.answers, b.answers, alike) {
		return nil, false
	}
	return a.answers, true
}

func alike(a, b api.Answer) bool {
	return a.Err == b.Err && bytes.Equal(a.Data, b.Data) && a.Sight == b.Sight
}
