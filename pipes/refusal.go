package pipes

import "pintle/api"

// demand gives a call up with that error, where what it takes does not hold; the call's face catches it.
func demand(holds bool, err error) {
	if !holds {
		panic(err)
	}
}

// caught is the error that a call was given up with: a fault of the program's own must not pass for one.
func caught(given any) error {
	switch err := given.(type) {
	case error:
		if listed(err) {
			return err
		}
	}
	panic(given)
}

// listed tells whether an error is one that may come of a Pipe.
func listed(err error) bool {
	switch err {
	case api.ErrDead, api.ErrTurn, api.ErrLong, api.ErrShort, api.ErrKind, api.ErrNonce, api.ErrStatic, api.ErrAuth, api.ErrDraw:
		return true
	}
	return err == api.ErrArg // of a nil Pipe alone
}
