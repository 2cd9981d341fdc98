package pipes

import (
	"pintle/api"
	"pintle/pattern"
)

// Kinds of messages: by whom, on which road.
const (
	fullOpens   = 1
	fullAnswers = 2
	fullEnds    = 3
	zeroOpens   = 4
	zeroAnswers = 5
	backAnswers = 6
	backEnds    = 7
)

// road is a handshake: its name, its pattern, the kinds of its messages in their order, and what each side hands to it.
type road struct {
	name             string
	base             string
	words            []string // modifiers of base
	kinds            []byte
	opener, answerer func(*underWay) api.Setup
}

// roads are by their numbers; the first one is no road.
func roads() [api.RoadBack + 1]road {
	return [...]road{
		api.RoadFull: {
			name:     "Noise_XX_25519_ChaChaPoly_BLAKE2s",
			base:     "XX",
			kinds:    []byte{fullOpens, fullAnswers, fullEnds},
			opener:   (*underWay).ownKeys,
			answerer: (*underWay).ownKeys,
		},
		api.RoadZero: {
			name:     "Noise_IK_25519_ChaChaPoly_BLAKE2s",
			base:     "IK",
			kinds:    []byte{zeroOpens, zeroAnswers},
			opener:   (*underWay).withRemote,
			answerer: (*underWay).ownKeys,
		},
		api.RoadBack: {
			name:     "Noise_XXfallback_25519_ChaChaPoly_BLAKE2s",
			base:     "XX",
			words:    []string{"fallback"},
			kinds:    []byte{backAnswers, backEnds},
			opener:   (*underWay).withFormer,
			answerer: (*underWay).withMet,
		},
	}
}

// pattern is never refused: the table of patterns has each base, and the words may stand there.
func (r road) pattern() api.Pattern {
	p, _ := pattern.Find(r.base)
	p, _ = pattern.Modify(p, r.words...)
	return p
}

// setup is what that side of it begins with.
func (r road) setup(w *underWay) api.Setup {
	hands := r.answerer
	if w.setup.Opener {
		hands = r.opener
	}
	u := hands(w)
	u.Name = r.name
	return u
}

// place is where a message comes: to whom, on which road, of which kind.
type place struct {
	opener bool
	road   int
	kind   byte
}

// readers are the roads whose handshakes read a message, by its place; at any other place no message may come.
func readers() map[place]int {
	return map[place]int{
		{false, api.RoadNone, fullOpens}:  api.RoadFull,
		{false, api.RoadNone, zeroOpens}:  api.RoadZero,
		{false, api.RoadFull, fullEnds}:   api.RoadFull,
		{false, api.RoadBack, backEnds}:   api.RoadBack,
		{true, api.RoadFull, fullAnswers}: api.RoadFull,
		{true, api.RoadZero, zeroAnswers}: api.RoadZero,
		{true, api.RoadZero, backAnswers}: api.RoadBack,
	}
}
