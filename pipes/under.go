package pipes

import (
	"bytes"
	"slices"

	"pintle/api"
	"pintle/handshake"
	"pintle/suite"
)

const kindSize = 1 // bytes ahead of a message of a handshake

// underWay is a handshake that is not over, or what waits for one, and what another one would begin with.
type underWay struct {
	suite   suite.Suite
	setup   api.PipeSetup
	opening []byte           // the message of the kind zeroOpens as it went over the line, while a handshake may begin with it
	hand    *handshake.State // nil without a road
	gone    int              // how many messages of it
}

func (w *underWay) side() int {
	if w.setup.Opener {
		return api.Initiator
	}
	return api.Responder
}

func (w *underWay) ownKeys() api.Setup {
	u := w.setup
	return api.Setup{Initiator: u.Opener, Prologue: u.Prologue, Static: u.Static, HasStatic: true, Draws: u.Draws}
}

func (w *underWay) withRemote() api.Setup {
	u := w.ownKeys()
	u.Remote, u.HasRemote = w.setup.Remote, true
	return u
}

// fallen is what both sides hand to a handshake that takes the place of one that could not be read.
func (w *underWay) fallen() api.Setup {
	u := w.ownKeys()
	u.Prologue = slices.Concat(u.Prologue, w.opening)
	return u
}

// withFormer finds a draw there: the opener's message, without which nobody falls back, took the first one.
func (w *underWay) withFormer() api.Setup {
	u := w.fallen()
	u.Former, u.HasFormer = w.setup.Draws[0], true
	return u
}

func (w *underWay) withMet() api.Setup {
	u := w.fallen()
	u.Ephemeral, u.HasEphemeral = w.hand.Met()
	return u
}

// begin goes a road from its first message on.
func (p *Pipe) begin(number int) {
	w, r := p.under, roads()[number]
	h, _ := handshake.New(w.suite, r.pattern(), r.setup(w)) // never refused: each side has the keys that its pattern needs
	p.road, p.told = number, toldBy(h)
	w.hand, w.gone, w.opening = h, 0, nil
}

// toldBy is what a handshake tells, with nothing of the ways behind it.
func toldBy(h *handshake.State) api.Sight {
	remote, has := h.Remote()
	return api.Sight{Turn: h.Turn(), Over: h.Over(), Hash: h.Hash(), Remote: remote, HasRemote: has}
}

// passed goes on behind a message of the handshake; once that is over, nothing of it is kept but what it told.
func (p *Pipe) passed() {
	h := p.under.hand
	p.under.gone++
	p.told = toldBy(h)
	if p.told.Over {
		p.out, p.in, _ = h.Split() // never refused: all messages have gone
		p.under = nil
	}
}

// send is a message of the handshake.
func (p *Pipe) send(payload []byte) []byte {
	w := p.under
	demand(p.told.Turn == w.side(), api.ErrTurn)
	size, err := w.hand.Size(len(payload))
	demand(err == nil, err)
	demand(size <= api.MaxMessage-kindSize, api.ErrLong)
	written, err := w.hand.Write(payload)
	demand(err == nil, err)
	kind := roads()[p.road].kinds[w.gone]
	message := append([]byte{kind}, written...)
	if kind == zeroOpens {
		w.opening = bytes.Clone(message)
	}
	p.passed()
	return message
}

// receive is the payload of a message of the handshake.
func (p *Pipe) receive(message []byte) []byte {
	w := p.under
	demand(p.told.Turn != w.side(), api.ErrTurn)
	demand(len(message) <= api.MaxMessage, api.ErrLong)
	demand(len(message) >= kindSize, api.ErrKind)
	number, found := readers()[place{w.setup.Opener, p.road, message[0]}]
	demand(found, api.ErrKind)
	if number != p.road {
		p.begin(number)
	}
	payload, err := w.hand.Read(message[kindSize:])
	switch {
	case err == nil:
		p.passed()
	case fallsBack(message[0], err):
		w.opening = message // begin lets go of it again
		p.begin(api.RoadBack)
	default:
		p.alive, p.under = false, nil
		panic(err)
	}
	return payload
}

// fallsBack tells whether a handshake that failed to read a message of that kind makes room for another one.
func fallsBack(kind byte, err error) bool {
	return kind == zeroOpens && (err == api.ErrStatic || err == api.ErrAuth)
}
