package twin

import "pintle/api"

// Agreed is what Both makes of what came of a script on each engine: of the engines themselves it gets to see no two that differ.
func Agreed(a []api.Answer, aErr error, b []api.Answer, bErr error) ([]api.Answer, bool) {
	return agreed(outcome{a, aErr}, outcome{b, bErr})
}
