package twin_test

import (
	"slices"
	"testing"

	"pintle/api"
	"pintle/naming"
)

// ledger is what the fast engine is to log, written down by the words of the chapters, from lengths and other public things alone: no key, no payload and no message comes here.
type ledger struct {
	events []api.Event
}

func (l *ledger) if_(is bool) bool {
	value := 0
	if is {
		value = 1
	}
	l.events = append(l.events, api.Event{Kind: 1, Value: value})
	return is
}

func (l *ledger) at(i int) { l.events = append(l.events, api.Event{Kind: 2, Value: i}) }

func (l *ledger) op(kinds ...int) {
	for _, kind := range kinds {
		l.events = append(l.events, api.Event{Kind: 3, Value: kind})
	}
}

// runs are the events, like ones in a row as one (chapter 2).
func (l *ledger) runs() []api.Run {
	var runs []api.Run
	for rest := l.events; len(rest) > 0; {
		n := 1
		for n < len(rest) && rest[n] == rest[0] {
			n++
		}
		runs = append(runs, api.Run{Event: rest[0], Times: n})
		rest = rest[n:]
	}
	return runs
}

// shared is chapter 5's Shared, and Public.
func (l *ledger) shared() {
	const add, sub, mul, square, scale, invert, swap = 1, 2, 3, 4, 5, 6, 7
	for range 255 {
		l.op(swap, swap, add, square, sub, square, sub, add, sub, mul, mul, add, square, sub, square, mul, mul, scale, add, mul)
	}
	l.op(swap, swap, invert, mul)
}

// stream is chapter 6's XOR of n bytes.
func (l *ledger) stream(n int) {
	const four, one = 21, 22
	at := 0
	for l.if_(n-at >= 256) {
		l.at(at)
		l.op(four)
		at += 256
	}
	for l.if_(n-at >= 64) {
		l.at(at)
		l.op(one)
		at += 64
	}
	if l.if_(n-at > 0) {
		l.at(at)
		l.op(one)
	}
}

// tag is chapter 7's Of, of pieces of these lengths.
func (l *ledger) tag(pieces ...int) {
	const plus, times = 11, 12
	held := 0
	for i := 0; l.if_(i < len(pieces)); i++ {
		l.at(i)
		left := pieces[i]
		if l.if_(held > 0) {
			l.at(held)
			k := min(16-held, left)
			l.at(k)
			held, left = held+k, left-k
			if l.if_(held == 16) {
				l.op(plus, times)
				held = 0
			}
		}
		for l.if_(left >= 16) {
			l.op(plus, times)
			left -= 16
		}
		if l.if_(left > 0) {
			held = left
		}
	}
	if l.if_(held > 0) {
		l.at(held)
		l.op(plus, times)
	}
}

// hash is chapter 8's Of, of pieces of these lengths.
func (l *ledger) hash(pieces ...int) {
	const press = 31
	for range 4 { // size 32, no key
		l.if_(false)
	}
	held := 0
	for i := 0; l.if_(i < len(pieces)); i++ {
		l.at(i)
		for left := pieces[i]; l.if_(left > 0); {
			if l.if_(held == 64) {
				l.op(press)
				held = 0
			}
			l.at(held)
			k := min(64-held, left)
			l.at(k)
			held, left = held+k, left-k
		}
	}
	l.at(held)
	l.op(press)
}

// frame is the lengths of chapter 11's five pieces.
func frame(ad, n int) []int { return []int{ad, (16 - ad%16) % 16, n, (16 - n%16) % 16, 16} }

// seal is chapter 11's Seal of n bytes.
func (l *ledger) seal(ad, n int) {
	l.stream(32)
	l.stream(n)
	l.tag(frame(ad, n)...)
}

// open is chapter 11's Open of n bytes and a tag.
func (l *ledger) open(ad, n int, right bool) {
	l.stream(32)
	l.tag(frame(ad, n)...)
	if l.if_(right) {
		l.stream(n)
	}
}

// hmac is chapter 12's HMAC with a key of 32 bytes.
func (l *ledger) hmac(pieces ...int) {
	l.hash(append([]int{64}, pieces...)...)
	l.hash(64, 32)
}

func (l *ledger) two(in int) {
	l.hmac(in)
	l.hmac(1)
	l.hmac(32, 1)
}

func (l *ledger) three(in int) {
	l.two(in)
	l.hmac(32, 1)
}

// course is how far one side of a session has come, as the ledger needs it.
type course struct {
	ledger
	p              api.Pattern
	side, gone     int
	keyed, withPsk bool
}

// begun is New of chapters 18 and 19.
func begun(t *testing.T, u api.Setup) *course {
	t.Helper()
	p, err := naming.Parse(u.Name)
	if err != nil {
		t.Fatal(err)
	}
	c := &course{p: p, side: second}
	if u.Initiator {
		c.side = first
	}
	sendsStatic := slices.Contains(p.Before[c.side], api.TokenS)
	for _, line := range p.Lines {
		sendsStatic = sendsStatic || line.From == c.side && slices.Contains(line.Tokens, api.TokenS)
		c.withPsk = c.withPsk || slices.Contains(line.Tokens, api.TokenPSK)
	}
	if sendsStatic {
		c.shared()
	}
	if slices.Contains(p.Before[c.side], api.TokenE) {
		c.shared()
	}
	if len(u.Name) > 32 {
		c.hash(len(u.Name))
	}
	c.hash(32, len(u.Prologue))
	for _, tokens := range p.Before {
		for _, token := range tokens {
			c.mixPublic(token)
		}
	}
	return c
}

// mixPublic is a public key as it is taken in where it is not sealed.
func (c *course) mixPublic(token int) {
	c.hash(32, 32)
	if token == api.TokenE && c.withPsk {
		c.mixKey()
	}
}

func (c *course) mixKey() {
	c.two(32)
	c.keyed = true
}

// mixSeal is chapter 14's Seal of n bytes.
func (c *course) mixSeal(n int) {
	if c.keyed {
		c.seal(32, n)
		n += 16
	}
	c.hash(32, n)
}

// mixOpen is chapter 14's Open of what n bytes were sealed to.
func (c *course) mixOpen(n int, right bool) {
	if !c.keyed {
		c.hash(32, n)
		return
	}
	c.hash(32, n+16)
	c.open(32, n, right)
}

// token is one of a message; of an s that is read, whether it is right.
func (c *course) token(token int, writes, right bool) {
	switch token {
	case api.TokenE:
		if writes {
			c.shared()
		}
		c.mixPublic(token)
	case api.TokenS:
		if writes {
			c.mixSeal(32)
		} else {
			c.mixOpen(32, right)
		}
	case api.TokenPSK:
		c.three(32)
		c.hash(32, 32)
		c.keyed = true
	default:
		c.shared()
		c.mixKey()
	}
}

// message is one of the handshake: as many bytes of payload, and what came of it. One that fails ends what there is to log.
func (c *course) message(writes bool, n int, err error) {
	for _, token := range c.p.Lines[c.gone].Tokens {
		c.token(token, writes, err != api.ErrStatic)
		if token == api.TokenS && err == api.ErrStatic {
			return
		}
	}
	if writes {
		c.mixSeal(n)
	} else {
		c.mixOpen(n, err == nil)
	}
	if err != nil {
		return
	}
	if c.gone++; c.gone == len(c.p.Lines) {
		c.two(0) // Split
	}
}

// least is how many bytes the next message has without a payload.
func (c *course) least() int {
	least, keyed := 0, c.keyed
	for _, token := range c.p.Lines[c.gone].Tokens {
		switch {
		case token == api.TokenE:
			least += 32
			keyed = keyed || c.withPsk
		case token == api.TokenS && keyed:
			least += 48
		case token == api.TokenS:
			least += 32
		default:
			keyed = true
		}
	}
	if keyed {
		least += 16
	}
	return least
}

// step is one of a script, with its length and what came of it.
func (c *course) step(kind, length int, err error) {
	over := c.gone == len(c.p.Lines)
	fails := kind == read && (err == api.ErrAuth || err == api.ErrStatic)
	switch {
	case err != nil && !fails, kind == nonce, kind == sight:
	case kind == rekey:
		c.seal(0, 32)
	case kind == write && over:
		c.seal(0, length)
	case kind == read && over:
		c.open(0, length-16, err == nil)
	case kind == write:
		c.message(true, length, nil)
	case kind == read:
		c.message(false, length-c.least(), err)
	}
}

// ledgerOf is what a script is to log: of its steps the kinds and lengths, of the answers the errors.
func ledgerOf(t *testing.T, u api.Setup, steps []api.Step, answers []api.Answer) *ledger {
	t.Helper()
	c := begun(t, u)
	for i, step := range steps {
		c.step(step.Kind, len(step.Data), answers[i].Err)
	}
	return &c.ledger
}
