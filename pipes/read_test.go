package pipes_test

import (
	"bytes"
	"slices"
	"testing"

	"pintle/api"
)

// lengths are those of messages at the edges that the chapter names, and a few between them.
func lengths() []int { return []int{0, 1, 15, 16, 17, 33, 97, limit, limit + 1} }

// P21.3: a dead Pipe says ErrDead of every message: one of no byte, one that is too long, of each kind, the right one too.
func TestReadDead(t *testing.T) {
	each(t, func(t *testing.T, at place) {
		if at.sendsNext() {
			return
		}
		both := placed(t, at.road, at.gone, 30)
		right := both[1-at.side].mustWrite(nil)
		both[at.side].mustDieOf(api.ErrShort, messageOf(at.awaits()[0], 2))
		both[at.side].mustRefuseRead(api.ErrDead, right)
	})
}

// P21.3: ErrTurn where the turn is its own, of an opener that has written nothing too, whatever comes: no byte, every first byte, too many bytes. Nothing has changed.
func TestReadTurn(t *testing.T) {
	each(t, func(t *testing.T, at place) {
		if !at.sendsNext() {
			return
		}
		both := placed(t, at.road, at.gone, 31)
		for kind := range 256 {
			for _, n := range []int{0, 1, 97, limit + 1} {
				both[at.side].mustRefuseRead(api.ErrTurn, messageOf(byte(kind), n))
			}
		}
		over(both)
	})
}

// P21.3: ErrLong of a message that has more than MaxMessage bytes, of every kind: ahead of ErrKind. Nothing has changed.
func TestReadLong(t *testing.T) {
	each(t, func(t *testing.T, at place) {
		if at.sendsNext() {
			return
		}
		both := placed(t, at.road, at.gone, 32)
		for kind := range 256 {
			both[at.side].mustRefuseRead(api.ErrLong, messageOf(byte(kind), limit+1))
		}
		both[at.side].mustRefuseRead(api.ErrLong, make([]byte, 1<<20))
		over(both)
	})
}

// P21.3: ErrKind of no byte, and of every first byte but those that may come there, at any length up to MaxMessage, ahead of ErrShort. Nothing has changed.
func TestReadKind(t *testing.T) {
	each(t, func(t *testing.T, at place) {
		if at.sendsNext() {
			return
		}
		both := placed(t, at.road, at.gone, 33)
		o := both[at.side]
		o.mustRefuseRead(api.ErrKind, nil)
		o.mustRefuseRead(api.ErrKind, []byte{})
		refused := 0
		for kind := range 256 {
			if slices.Contains(at.awaits(), byte(kind)) {
				continue
			}
			for _, n := range []int{1, 2, 33, 97, limit} {
				o.mustRefuseRead(api.ErrKind, messageOf(byte(kind), n))
			}
			refused++
		}
		if refused != 256-len(at.awaits()) {
			t.Errorf("%d kinds are refused", refused)
		}
		over(both)
	})
}

// P21.3: the right message under another kind is ErrKind, or is not authentic; and goes on to be read under its own.
func TestReadRightUnderAnotherKind(t *testing.T) {
	each(t, func(t *testing.T, at place) {
		if at.sendsNext() {
			return
		}
		both := placed(t, at.road, at.gone, 34)
		message := both[1-at.side].mustWrite([]byte("hail"))
		for kind := range 256 {
			if !slices.Contains(at.awaits(), byte(kind)) {
				both[at.side].mustRefuseRead(api.ErrKind, append([]byte{byte(kind)}, message[1:]...))
			}
		}
		if _, err := both[at.side].read(message); err != nil {
			t.Fatal(err)
		}
		over(both)
	})
}

// roadOf is the road whose handshake reads a kind, by the chapter's table.
var roadOf = map[byte]int{1: full, 2: full, 3: full, 4: zero, 5: zero, 6: back, 7: back}

// P21.3, P21.4: ErrShort of each kind that may come, of every length below that of a message without a payload: the Pipe is dead, on that kind's road.
func TestReadShort(t *testing.T) {
	each(t, func(t *testing.T, at place) {
		if at.sendsNext() {
			return
		}
		for _, kind := range at.awaits() {
			least := leastOf[kind]
			for _, n := range []int{1, 2, 15, 16, 17, 32, least / 2, least - 16, least - 1} {
				o := at.reach(t, 35)
				if n < least {
					o.mustDieOf(api.ErrShort, messageOf(kind, n))
				}
				if got := o.p.Sight().Road; n < least && got != roadOf[kind] {
					t.Fatalf("the kind %d, %d bytes: road %d", kind, n, got)
				}
			}
		}
	})
}

// P21.3, P21.4: messages of each kind that may come, of the least length on, with wrong bytes: ErrStatic or ErrAuth and the Pipe is dead, on that kind's road; but of kind 1, in which nothing is sealed, and of kind 4, which is fallen back from.
func TestReadWrong(t *testing.T) {
	each(t, func(t *testing.T, at place) {
		if at.sendsNext() {
			return
		}
		for _, kind := range at.awaits() {
			for _, n := range []int{leastOf[kind], leastOf[kind] + 1, leastOf[kind] + 16, limit} {
				o := at.reach(t, 36)
				message := messageOf(kind, n)
				road, want := roadOf[kind], api.ErrStatic
				switch kind {
				case 1:
					want = nil
				case 4:
					road, want = back, nil
				case 5:
					want = api.ErrAuth
				}
				if _, err := o.read(message); err != want || o.p.Sight().Road != road || o.p.Sight().Sight.Dead != (want != nil) {
					t.Fatalf("the kind %d, %d bytes: %v, %+v", kind, n, err, o.p.Sight())
				}
				if want != nil {
					o.mustBeDead()
				}
			}
		}
	})
}

// P21.3, P0.7: of the right message with one bit turned: in the e or in the s ErrStatic, where an s stands, else, in the payload and in its tag ErrAuth; the Pipe is dead, and the right message comes too late.
func TestReadTurned(t *testing.T) {
	static := map[byte][]int{2: {1, 32, 33, 64, 65, 80}, 3: {1, 32, 33, 48}, 6: {1, 32, 33, 64, 65, 80}, 7: {1, 32, 33, 48}}
	payload := map[byte][]int{2: {81, 84, -16, -1}, 3: {49, 52, -16, -1}, 5: {1, 32, 33, -16, -1}, 6: {81, 84, -16, -1}, 7: {49, 52, -16, -1}}
	each(t, func(t *testing.T, at place) {
		kind := kindsOf[at.road][at.gone]
		if at.sendsNext() || kind == 1 || kind == 4 {
			return
		}
		die := func(want error, places []int) {
			t.Helper()
			for _, where := range places {
				both := placed(t, at.road, at.gone, 37)
				right, o := both[1-at.side].mustWrite([]byte("hail")), both[at.side]
				o.mustDieOf(want, turned(right, where))
				o.mustRefuseRead(api.ErrDead, right)
			}
		}
		die(api.ErrStatic, static[kind])
		die(api.ErrAuth, payload[kind])
	})
}

// P21.3: once it is over in the order ErrLong, ErrShort, ErrNonce, ErrAuth; none of them changes anything, the first byte is no kind, and all goes on.
func TestReadOver(t *testing.T) {
	t.Parallel()
	for _, road := range allRoads() {
		both := over(watched(t, road, 38))
		for to, o := range both {
			for _, number := range []uint64{0, 5, last - 1, last} {
				o.setNumbers(0, number)
				for _, n := range lengths() {
					want := api.ErrAuth
					switch {
					case n > limit:
						want = api.ErrLong
					case n < 16:
						want = api.ErrShort
					case number == last:
						want = api.ErrNonce
					}
					for _, kind := range []byte{0, 1, 5, 7, 255} {
						o.mustRefuseRead(want, messageOf(kind, n))
					}
				}
			}
			o.setNumbers(0, 0)
			both[1-to].setNumbers(0, 0)
			for range 3 {
				say(both, 1-to, []byte("hail"))
			}
			o.setNumbers(0, 0)
		}
	}
}

// P21.3: messages of 16, 17 and up to MaxMessage bytes are read once it is over.
func TestReadOverLengths(t *testing.T) {
	d := draw(39)
	for _, road := range allRoads() {
		both := over(sides(t, road, 39))
		for _, n := range []int{16, 17, 31, 32, 80, limit - 1, limit} {
			payload := d.bytes(n - 16)
			for from := range both {
				message := both[from].mustWrite(payload)
				if len(message) != n {
					t.Fatalf("%d bytes, not %d", len(message), n)
				}
				both[1-from].mustRead(message, payload)
			}
		}
	}
}

// P21.3, P0.7: once it is over each bit of a message that is another one makes ErrAuth, and so does the own message, a message in another order, or one for a second time; the right one is read behind them as if they had not been.
func TestReadOverWrong(t *testing.T) {
	for _, road := range allRoads() {
		both := over(sides(t, road, 40))
		for from := range both {
			message, o := both[from].mustWrite([]byte("hail")), both[1-from]
			next := both[from].mustWrite([]byte("ho"))
			for bit := range 8 * len(message) {
				wrong := bytes.Clone(message)
				wrong[bit/8] ^= 1 << (bit % 8)
				o.mustRefuseRead(api.ErrAuth, wrong)
			}
			for _, wrong := range [][]byte{message[1:], message[:len(message)-1], append(bytes.Clone(message), 0), next} {
				o.mustRefuseRead(api.ErrAuth, wrong)
			}
			both[from].mustRefuseRead(api.ErrAuth, message)
			o.mustRead(message, []byte("hail"))
			o.mustRefuseRead(api.ErrAuth, message)
			o.mustRead(next, []byte("ho"))
		}
	}
}

// P21.3: the number goes on by one with each message that is read, up to the last one, at which nothing is read for ever.
func TestReadNumbers(t *testing.T) {
	both := over(sides(t, zero, 41))
	for from := range both {
		o := both[1-from]
		both[from].setNumbers(last-2, 0)
		o.setNumbers(3, last-2)
		say(both, from, []byte("hail"))
		o.mustNumber(3, last-1)
		message := both[from].mustWrite([]byte("hail"))
		o.mustRead(message, []byte("hail"))
		for range 3 {
			o.mustNumber(3, last)
			o.mustRefuseRead(api.ErrNonce, message)
			o.mustRefuseRead(api.ErrNonce, make([]byte, limit))
		}
	}
}

// P21.3, W5: a nil message and an empty one are the same, at every place.
func TestReadNothing(t *testing.T) {
	each(t, func(t *testing.T, at place) {
		want := api.ErrKind
		if at.sendsNext() {
			want = api.ErrTurn
		}
		for range 2 {
			at.reach(t, 42).mustRefuseRead(want, nil)
			at.reach(t, 42).mustRefuseRead(want, []byte{})
		}
	})
	for _, road := range allRoads() {
		for _, o := range over(sides(t, road, 42)) {
			o.mustRefuseRead(api.ErrShort, nil)
			o.mustRefuseRead(api.ErrShort, []byte{})
		}
	}
}
