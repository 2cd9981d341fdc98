package session

import (
	"pintle/api"
	"pintle/cipher"
	"pintle/handshake"
)

// phase is what a Session is in: a handshake under way or, once that is over, a transport.
type phase interface {
	dead() bool
	over() bool // whether there are ways
	write(payload []byte) ([]byte, error)
	read(message []byte) ([]byte, error)
	way(number int) way
	behind() phase // what it is in behind a message
}

// underWay is a handshake that is not over.
type underWay struct {
	hand   *handshake.State
	keeps  [2]bool // which ways there will be: out, in
	failed bool    // a message could not be read: it ends here
}

func (u *underWay) dead() bool { return u.failed }

func (u *underWay) over() bool { return false }

func (u *underWay) write(payload []byte) ([]byte, error) { return u.hand.Write(payload) }

func (u *underWay) read(message []byte) ([]byte, error) {
	payload, err := u.hand.Read(message)
	switch err {
	case api.ErrShort, api.ErrStatic, api.ErrAuth:
		u.failed = true
	}
	return payload, err
}

func (u *underWay) way(int) way { return way{} }

func (u *underWay) behind() phase {
	if !u.hand.Over() {
		return u
	}
	out, in, _ := u.hand.Split() // never refused: all messages have gone, and a dead handshake lacks one
	o := &transport{told: toldBy(u.hand)}
	for i, c := range [...]*cipher.State{out, in} {
		if u.keeps[i] {
			o.ways[i] = way{c}
		}
	}
	return o
}

// waysKept says which ways a side has behind a pattern: of a one-way pattern only that of its one message.
func waysKept(p api.Pattern, initiator bool) [2]bool {
	oneWay := len(p.Lines) == 1 && p.Lines[0].From == api.Initiator
	return [2]bool{!oneWay || initiator, !oneWay || !initiator}
}

// transport is what comes behind a handshake; of that it keeps what it told in the end.
type transport struct {
	told api.Sight
	ways [2]way // out, in
}

func (o *transport) dead() bool { return false }

func (o *transport) over() bool { return true }

func (o *transport) write(payload []byte) ([]byte, error) { return o.way(api.Out).seal(payload) }

func (o *transport) read(message []byte) ([]byte, error) { return o.way(api.In).open(message) }

func (o *transport) way(number int) way { return o.ways[number-api.Out] }

func (o *transport) behind() phase { return o }
