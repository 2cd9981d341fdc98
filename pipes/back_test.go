package pipes_test

import (
	"bytes"
	"testing"

	"pintle/api"
	"pintle/handshake"
	"pintle/pattern"
	"pintle/suite"
)

// opened are two that go RoadZero, or are to fall back, and the opener's first message.
func opened(t *testing.T, road int, payload string, seed draw) ([2]*one, []byte) {
	t.Helper()
	both := sides(t, road, seed)
	return both, both[first].mustWrite([]byte(payload))
}

// mustFallBack asks an answerer to read a message of kind 4 without a payload and an error, and to go RoadBack from there on, with its turn next.
func (o *one) mustFallBack(message []byte) {
	o.t.Helper()
	o.mustRead(message, nil)
	x := o.p.Sight()
	if x.Road != back || x.Sight.Turn != second || x.Sight.Over || x.Sight.Dead || x.Sight.HasRemote {
		o.t.Fatalf("not fallen back: %+v", x)
	}
	o.mustRefuseRead(api.ErrTurn, message)
}

// P21.3: an answerer whose Read of a message of kind 4 comes to ErrStatic (another key, a bit in the e, a bit in the s) or to ErrAuth (a bit in the payload or in its tag) falls back.
func TestFallBack(t *testing.T) {
	for _, payload := range []string{"", "hail"} {
		both, message := opened(t, back, payload, 50)
		both[second].mustFallBack(message)
		for _, where := range []int{1, 32, 33, 64, 65, 80, 81, -16, -1} {
			both, message := opened(t, zero, payload, 50)
			both[second].mustFallBack(turned(message, where))
		}
	}
	for _, n := range []int{97, 98, 113, limit} {
		both := sides(t, zero, 50)
		both[second].mustFallBack(messageOf(4, n))
	}
}

// P21.3: and so does one whose prologue is another one; then the roads back have two prologues, and the opener does not read the answer.
func TestFallBackOtherPrologue(t *testing.T) {
	u := setups(zero, 51)
	u[second].Prologue = append(u[second].Prologue, 0)
	both := pairOf(t, u)
	both[second].mustFallBack(both[first].mustWrite(nil))
	both[first].mustDieOf(api.ErrStatic, both[second].mustWrite(nil))
}

// P21.3: ErrShort of a message of kind 4 makes the answerer dead, at every length up to 96 bytes; at 97 it falls back.
func TestFallBackShort(t *testing.T) {
	for n := 1; n < 97; n++ {
		o := sideOf(t, suite.Fast(nil), setups(zero, 52)[second])
		o.mustDieOf(api.ErrShort, messageOf(4, n))
		if got := o.p.Sight().Road; got != zero {
			t.Fatalf("%d bytes: road %d", n, got)
		}
	}
}

// P21.3: the road back is XXfallback with u.Prologue and the message of kind 4 behind it, its kind too; the opener's Former is the draw that this message took, the answerer's Ephemeral its public key: by hand, of both sides.
func TestBackByHand(t *testing.T) {
	xx, _ := pattern.Find("XX")
	p, err := pattern.Modify(xx, "fallback")
	if err != nil {
		t.Fatal(err)
	}
	for _, prologue := range []string{"", "ahoy"} {
		u := setups(back, 53)
		u[first].Draws = append(u[first].Draws, api.Key{9})
		u[second].Draws = append(u[second].Draws, api.Key{8})
		u[first].Prologue, u[second].Prologue = []byte(prologue), []byte(prologue)
		both := pairOf(t, u)
		message := both[first].mustWrite([]byte("hail"))
		setup := api.Setup{Name: "Noise_XXfallback_25519_ChaChaPoly_BLAKE2s", Prologue: append([]byte(prologue), message...), HasStatic: true}
		opener, answerer := setup, setup
		opener.Initiator, opener.Static, opener.Former, opener.HasFormer = true, u[first].Static, u[first].Draws[0], true
		answerer.Static, answerer.Ephemeral, answerer.HasEphemeral, answerer.Draws = u[second].Static, api.Key(message[1:33]), true, u[second].Draws
		i, err := handshake.New(suite.Plain(), p, opener)
		r, err2 := handshake.New(suite.Plain(), p, answerer)
		if err != nil || err2 != nil {
			t.Fatal(err, err2)
		}
		both[second].mustFallBack(message)
		mustHash(t, both[second], r)
		answer := both[second].mustWrite([]byte("no"))
		if rest, err := r.Write([]byte("no")); err != nil || !bytes.Equal(answer, append([]byte{6}, rest...)) {
			t.Fatalf("%v: %x, not %x", err, answer, rest)
		}
		both[first].mustRead(answer, []byte("no"))
		if payload, err := i.Read(answer[1:]); err != nil || string(payload) != "no" {
			t.Fatalf("%v, %q", err, payload)
		}
		mustHash(t, both[first], i)
		end := both[first].mustWrite([]byte("hail"))
		if rest, err := i.Write([]byte("hail")); err != nil || !bytes.Equal(end, append([]byte{7}, rest...)) {
			t.Fatalf("%v: %x, not %x", err, end, rest)
		}
		both[second].mustRead(end, []byte("hail"))
		mustHash(t, both[first], i)
	}
}

func mustHash(t *testing.T, o *one, h *handshake.State) {
	t.Helper()
	if got := o.p.Sight().Sight.Hash; got != h.Hash() {
		t.Fatalf("the hash %x, not %x", got, h.Hash())
	}
}

// P21.3: the message of kind 4 is that which went over the line, all of it: with a bit turned on the way the answerer falls back, but the opener, which has sent another one, does not read the answer, and is dead on RoadBack.
func TestBackOtherMessage(t *testing.T) {
	for _, road := range []int{zero, back} {
		for _, where := range []int{1, 40, 80, -16, -1} {
			both, message := opened(t, road, "hail", 54)
			both[second].mustFallBack(turned(message, where))
			both[first].mustDieOf(api.ErrStatic, both[second].mustWrite(nil))
			if got := both[first].p.Sight().Road; got != back {
				t.Fatalf("road %d", got)
			}
		}
	}
}

// P21.3: the kind is in the prologue too: without it, or with another one in its place, the two sides do not agree.
func TestBackKindInPrologue(t *testing.T) {
	p, err := pattern.Parse(texts[back])
	if err != nil {
		t.Fatal(err)
	}
	for _, ahead := range []string{"", "\x01", "\x06", "\x04\x04"} {
		u := setups(back, 55)
		both, message := opened(t, back, "hail", 55)
		both[second].mustFallBack(message)
		h, err := handshake.New(suite.Fast(nil), p, api.Setup{
			Name: "Noise_XXfallback_25519_ChaChaPoly_BLAKE2s", Initiator: true, Prologue: append(append(bytes.Clone(u[first].Prologue), ahead...), message[1:]...),
			Static: u[first].Static, HasStatic: true, Former: u[first].Draws[0], HasFormer: true,
		})
		if err != nil {
			t.Fatal(err)
		}
		if _, err := h.Read(both[second].mustWrite(nil)[1:]); err != api.ErrStatic {
			t.Errorf("%q: %v", ahead, err)
		}
	}
}

// P21.3: an opener on RoadZero that reads a message of kind 6 goes RoadBack from then on, and is dead on it, if that Read is refused: too short, another static key, another payload.
func TestBackRefused(t *testing.T) {
	for _, x := range []struct {
		wrong func(message []byte) []byte
		want  error
	}{
		{func(m []byte) []byte { return m[:1] }, api.ErrShort},
		{func(m []byte) []byte { return m[:33] }, api.ErrShort},
		{func(m []byte) []byte { return m[:96] }, api.ErrShort},
		{func(m []byte) []byte { return turned(m, 1) }, api.ErrStatic},
		{func(m []byte) []byte { return turned(m, 33) }, api.ErrStatic},
		{func(m []byte) []byte { return turned(m, 80) }, api.ErrStatic},
		{func(m []byte) []byte { return turned(m, 81) }, api.ErrAuth},
		{func(m []byte) []byte { return turned(m, -1) }, api.ErrAuth},
		{func(m []byte) []byte { return m[:97] }, api.ErrAuth},
	} {
		both, message := opened(t, back, "hail", 56)
		both[second].mustFallBack(message)
		answer := both[second].mustWrite([]byte("no"))
		both[first].mustDieOf(x.want, x.wrong(answer))
		if got := both[first].p.Sight().Road; got != back {
			t.Errorf("%v: road %d", x.want, got)
		}
		both[first].mustRefuseRead(api.ErrDead, answer)
	}
}

// P21.3: an opener that went RoadZero with the right key, and is answered with kind 6 by one who has not read its message, goes RoadBack too, if that one knows the message.
func TestBackOfRightKey(t *testing.T) {
	u := setups(zero, 57)
	a := sideOf(t, suite.Fast(nil), u[first])
	message := a.mustWrite([]byte("hail"))
	u[second].Static = api.Key{7} // another one by now
	b := sideOf(t, suite.Plain(), u[second])
	b.mustFallBack(message)
	both := over([2]*one{a, b})
	if x := both[first].p.Sight(); x.Road != back || x.Sight.Remote != publicOf(api.Key{7}) {
		t.Errorf("%+v", x)
	}
}

// P21.3: a message of kind 5 that is really one of kind 6, or the other way round, is not read.
func TestBackKindsApart(t *testing.T) {
	both, message := opened(t, back, "", 58)
	both[second].mustFallBack(message)
	answer := both[second].mustWrite(nil)
	both[first].mustDieOf(api.ErrAuth, append([]byte{5}, answer[1:]...))
	if got := both[first].p.Sight().Road; got != zero {
		t.Errorf("road %d", got)
	}
	both, message = opened(t, zero, "", 58)
	both[second].mustRead(message, nil)
	answer = both[second].mustWrite(make([]byte, 60))
	both[first].mustDieOf(api.ErrStatic, append([]byte{6}, answer[1:]...))
	if got := both[first].p.Sight().Road; got != back {
		t.Errorf("road %d", got)
	}
}

// P21.3: to fall back takes no draw: one without a draw falls back, and ErrDraw comes of its Write.
func TestFallBackWithoutDraw(t *testing.T) {
	u := setups(back, 59)
	u[second].Draws = nil
	both := pairOf(t, u)
	both[second].mustFallBack(both[first].mustWrite(nil))
	both[second].mustRefuseWrite(api.ErrDraw, 0, 1, limit-97)
	both[second].mustRefuseWrite(api.ErrLong, limit-96)
}

// P21.3: no other message is fallen back from: kinds 2, 3, 5, 6 and 7 that are not authentic make it dead.
func TestFallBackOfNoOther(t *testing.T) {
	for _, at := range []place{{full, 1, first}, {full, 2, second}, {zero, 1, first}, {back, 1, first}, {back, 2, second}} {
		both := placed(t, at.road, at.gone, 60)
		message := both[1-at.side].mustWrite([]byte("hail"))
		both[at.side].mustDieOf(api.ErrAuth, turned(message, -1))
	}
}

// P21.3: a message of kind 4 that a second answerer reads too is read by each for itself: one with the key goes RoadZero, one without it falls back.
func TestTwoAnswerers(t *testing.T) {
	u := setups(zero, 61)
	a := sideOf(t, suite.Fast(nil), u[first])
	right := sideOf(t, suite.Fast(nil), u[second])
	u[second].Static[5]++
	wrong := sideOf(t, suite.Fast(nil), u[second])
	message := a.mustWrite([]byte("hail"))
	wrong.mustFallBack(message)
	right.mustRead(message, []byte("hail"))
	if right.p.Sight().Road != zero {
		t.Errorf("%+v", right.p.Sight())
	}
}
