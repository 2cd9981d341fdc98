package pipes_test

import (
	"bytes"
	"testing"

	"pintle/api"
	"pintle/suite"
)

// drawless are two that go that road, behind so many messages, of which that side has no draw from there on; it must not have used one up to there.
func drawless(t *testing.T, at place, seed draw) *one {
	t.Helper()
	u := setups(at.road, seed)
	u[at.side].Draws = nil
	both := pairOf(t, u)
	for range at.gone {
		pass(both, nil)
	}
	return both[at.side]
}

// P21.2: a dead Pipe says ErrDead of every payload: one that is too long, where it is not its turn, where it has no draw.
func TestWriteDead(t *testing.T) {
	each(t, func(t *testing.T, at place) {
		if at.sendsNext() {
			return
		}
		o := at.reach(t, 10)
		o.mustDieOf(api.ErrShort, messageOf(at.awaits()[0], 7))
		o.mustRefuseWrite(api.ErrDead, 0, 1, limit-97, limit-16, limit-15, limit+1)
	})
	bare := drawless(t, place{full, 0, second}, 10)
	bare.mustDieOf(api.ErrShort, messageOf(4, 32))
	bare.mustRefuseWrite(api.ErrDead, 0, limit+1)
}

// P21.2: ErrTurn without a road, and where the turn is the other side's, also of payloads that are too long and without a draw; nothing has changed.
func TestWriteTurn(t *testing.T) {
	each(t, func(t *testing.T, at place) {
		if at.sendsNext() {
			return
		}
		both := placed(t, at.road, at.gone, 11)
		both[at.side].mustRefuseWrite(api.ErrTurn, 0, 1, limit-97, limit-96, limit-16, limit, limit+1)
		over(both)
	})
	for _, road := range allRoads() {
		drawless(t, place{road, 0, second}, 11).mustRefuseWrite(api.ErrTurn, 0, limit+1)
	}
}

// P21.2: ErrDraw where an e is to be sent and no draw is left, at each such message; ErrLong comes ahead of it. Nothing has changed.
func TestWriteDraw(t *testing.T) {
	for _, at := range []place{{full, 0, first}, {full, 1, second}, {zero, 0, first}, {zero, 1, second}, {back, 0, first}, {back, 1, second}} {
		o := drawless(t, at, 12)
		most := limit - leastOf[kindsOf[at.road][at.gone]]
		for range 2 {
			o.mustRefuseWrite(api.ErrDraw, 0, 1, most-1, most)
			o.mustRefuseWrite(api.ErrLong, most+1, most+2, limit, limit+1, 1<<20)
		}
	}
}

// P21.2: the messages without an e take no draw: one that has none left, or none from the beginning on, writes them.
func TestWriteWithoutDraw(t *testing.T) {
	for _, road := range []int{full, back} {
		both := placed(t, road, 2, 13)
		if message := both[first].mustWrite(nil); message[0] != kindsOf[road][2] {
			t.Errorf("road %d: the kind %d", road, message[0])
		}
	}
}

// P21.2, P0.8: a payload at the limit of each message of each road is written and read, and one byte more is ErrLong; the kind is the first byte, and the length is what the tokens make.
func TestWriteLimits(t *testing.T) {
	d := draw(14)
	for _, road := range allRoads() {
		both := sides(t, road, 14)
		for place, kind := range kindsOf[road] {
			from, most := place%2, limit-leastOf[kind]
			both[from].mustRefuseWrite(api.ErrLong, most+1, most+2, most+16, limit-1, limit, limit+1, 1<<20)
			payload := d.bytes(most)
			message := both[from].mustWrite(payload)
			if len(message) != limit || message[0] != kind {
				t.Fatalf("road %d, message %d: %d bytes of the kind %d", road, place, len(message), message[0])
			}
			if kind == 4 && road == back {
				payload = nil
			}
			both[1-from].mustRead(message, payload)
		}
		if !both[first].p.Sight().Sight.Over || !both[second].p.Sight().Sight.Over {
			t.Errorf("road %d is not over", road)
		}
	}
}

// P21.2, P0.8: payloads of other lengths, none among them: kind and length of each message of each road.
func TestWriteLengths(t *testing.T) {
	d := draw(15)
	for _, n := range []int{0, 1, 2, 15, 16, 17, 63, 64, 65, 1000} {
		for _, road := range allRoads() {
			both := sides(t, road, draw(15+n))
			for place, kind := range kindsOf[road] {
				payload := d.bytes(n)
				message := both[place%2].mustWrite(payload)
				if len(message) != leastOf[kind]+n || message[0] != kind {
					t.Fatalf("road %d, message %d: %d bytes of the kind %d", road, place, len(message), message[0])
				}
				if kind == 4 && road == back {
					payload = nil
				}
				both[1-place%2].mustRead(message, payload)
			}
		}
	}
}

// P21.2: once it is over ErrLong comes ahead of ErrNonce, and takes no number; payloads up to the limit are sealed, without a kind, 16 bytes longer.
func TestWriteOver(t *testing.T) {
	d := draw(16)
	for _, road := range allRoads() {
		both := over(sides(t, road, 16))
		for from, o := range both {
			for _, number := range []uint64{0, 5, last - 1, last} {
				o.setNumbers(number, 0)
				o.mustRefuseWrite(api.ErrLong, limit-15, limit-14, limit, limit+1, 1<<20)
			}
			o.mustRefuseWrite(api.ErrNonce, 0, 1, limit-17, limit-16)
			o.setNumbers(0, 0)
			for _, n := range []int{0, 1, 15, 16, 17, 64, 1000, limit - 17, limit - 16} {
				payload := d.bytes(n)
				message := o.mustWrite(payload)
				if len(message) != n+16 {
					t.Fatalf("road %d: %d bytes of %d", road, len(message), n)
				}
				both[1-from].mustRead(message, payload)
			}
		}
	}
}

// P21.2: the number goes on by one with each message, up to the last one, at which nothing is written for ever; the way in is another one.
func TestWriteNumbers(t *testing.T) {
	for _, road := range allRoads() {
		both := over(sides(t, road, 17))
		for from, o := range both {
			o.setNumbers(0, 0)
			both[1-from].setNumbers(0, 0)
			for n := range uint64(4) {
				o.mustNumber(n, 0)
				say(both, from, nil)
			}
			o.setNumbers(last-1, 0)
			o.mustWrite([]byte("hail"))
			for range 3 {
				o.mustNumber(last, 0)
				o.mustRefuseWrite(api.ErrNonce, 0, 1, limit-16)
			}
			both[1-from].mustNumber(0, 4)
			say(both, 1-from, nil)
		}
	}
}

// mustNumber asks for the numbers of the two ways.
func (o *one) mustNumber(out, in uint64) {
	o.t.Helper()
	if x := o.p.Sight().Sight; x.Out != out || x.In != in {
		o.t.Fatalf("the numbers %d and %d, not %d and %d", x.Out, x.In, out, in)
	}
}

// P21.2, W5: a nil payload and an empty one are the same, at every place.
func TestWriteNothing(t *testing.T) {
	for _, road := range allRoads() {
		both, same := sides(t, road, 18), sides(t, road, 18)
		for place := range len(kindsOf[road]) + 3 {
			from := place % 2
			message := both[from].mustWrite(nil)
			if other := same[from].mustWrite([]byte{}); !bytes.Equal(message, other) {
				t.Fatalf("road %d: %x, not %x", road, other, message)
			}
			both[1-from].mustRead(message, nil)
			same[1-from].mustRead(message, nil)
		}
	}
}

// P21.2: what is written once it is over is what the way out seals without ad, by hand of RoadFull: no kind is in it, and no byte of the handshake.
func TestWriteSealedByHand(t *testing.T) {
	for _, engine := range engines() {
		u := setups(full, 19)
		both := over([2]*one{sideOf(t, engine, u[first]), sideOf(t, engine, u[second])})
		for from, o := range both {
			out, _, err := o.m.h.Split()
			if err != nil {
				t.Fatal(err)
			}
			for _, text := range []string{"", "hail", "hail again"} {
				want := append([]byte(text), make([]byte, 16)...)
				if _, err := out.Seal(nil, want, len(text)); err != nil {
					t.Fatal(err)
				}
				if message := o.mustWrite([]byte(text)); !bytes.Equal(message, want) {
					t.Fatalf("%x, not %x", message, want)
				}
				both[1-from].mustRead(want, []byte(text))
			}
		}
	}
}

// P21.2: a Write ahead of the other's answer is refused, and its own message is not written twice.
func TestWriteTwice(t *testing.T) {
	u := setups(zero, 20)
	u[first].Draws = append(u[first].Draws, api.Key{1})
	o := sideOf(t, suite.Fast(nil), u[first])
	o.mustWrite([]byte("hail"))
	o.mustRefuseWrite(api.ErrTurn, 0, 4, limit+1)
}
