package session

import "pintle/api"

// refusal goes through what may be refused, in the order of the errors, till one refuses.
func refusal(questions ...func() error) error {
	for _, refuses := range questions {
		if err := refuses(); err != nil {
			return err
		}
	}
	return nil
}

func (t *Session) absent() error {
	if t == nil {
		return api.ErrArg
	}
	return nil
}

func (t *Session) dead() error {
	if t.now == nil || t.now.dead() {
		return api.ErrDead
	}
	return nil
}

func (t *Session) early() error {
	if !t.now.over() {
		return api.ErrOver
	}
	return nil
}

func (w way) lacking() error {
	if w.cipher == nil {
		return api.ErrTurn
	}
	return nil
}

// wish is for one way of a Session.
type wish struct {
	of     *Session
	number int
}

func (w wish) wrong() error {
	if w.number != api.Out && w.number != api.In {
		return api.ErrArg
	}
	return nil
}

func (w wish) lacking() error { return w.of.now.way(w.number).lacking() }

// wayOf is one of the two ways, if it can be had.
func (t *Session) wayOf(number int) (way, error) {
	w := wish{t, number}
	if err := refusal(t.absent, t.dead, w.wrong, t.early, w.lacking); err != nil {
		return way{}, err
	}
	return t.now.way(number), nil
}

// size is how many bytes come, how many there must be at least, and how many there may be at most.
type size struct{ bytes, least, most int }

func (s size) long() error {
	if s.bytes > s.most {
		return api.ErrLong
	}
	return nil
}

func (s size) short() error {
	if s.bytes < s.least {
		return api.ErrShort
	}
	return nil
}
