package session_test

import (
	"bytes"
	"fmt"
	"strings"
	"testing"

	"pintle/api"
	"pintle/session"
	"pintle/suite"
	"pintle/trace"
)

// agree plays a whole session between two sides that fit, as they are: the handshake, and further messages of each way, rekeyed at the same places.
func agree(t *testing.T, full string, u [2]api.Setup, engines [2]suite.Suite, d *draw) {
	t.Helper()
	var both [2]*session.Session
	for side := range both {
		s, err := session.New(engines[side], u[side])
		if err != nil {
			t.Fatalf("%s: %v", full, err)
		}
		both[side] = s
	}
	hand := func(from int) {
		t.Helper()
		payload := d.bytes(d.below(120))
		message, err := both[from].Write(payload)
		got, err2 := both[1-from].Read(message)
		if err != nil || err2 != nil || !bytes.Equal(got, payload) {
			t.Fatalf("%s: %v, %v, %x, not %x", full, err, err2, got, payload)
		}
	}
	for range messagesOf(t, full) {
		hand(both[first].Sight().Turn)
	}
	mustBothBeOver(t, full, u, both)
	for range 7 {
		from := senders(full)[d.below(len(senders(full)))]
		if d.below(3) == 0 {
			if err, err2 := both[from].Rekey(out), both[1-from].Rekey(in); err != nil || err2 != nil {
				t.Fatalf("%s: %v, %v", full, err, err2)
			}
		}
		hand(from)
		a, b := both[from].Sight(), both[1-from].Sight()
		if a.Out != b.In || a.In != b.Out || a.Out == 0 {
			t.Fatalf("%s: the numbers %+v, %+v", full, a, b)
		}
	}
}

// mustBothBeOver asks for one hash on both sides, and that each knows the other's static key if it knows one.
func mustBothBeOver(t *testing.T, full string, u [2]api.Setup, both [2]*session.Session) {
	t.Helper()
	p := patternOf(t, full)
	for side, s := range both {
		x := s.Sight()
		if !x.Over || x.Dead || x.Hash != both[1-side].Sight().Hash || x.Out != 0 || x.In != 0 {
			t.Fatalf("%s, side %d: %+v", full, side, x)
		}
		told := strings.Contains(fmt.Sprint(p.Before[1-side]), fmt.Sprint(api.TokenS))
		for _, line := range p.Lines {
			told = told || line.From != side && strings.Contains(fmt.Sprint(line.Tokens), fmt.Sprint(api.TokenS))
		}
		want := api.Key{}
		if told {
			want = publicOf(u[1-side].Static)
		}
		if x.HasRemote != told || x.Remote != want {
			t.Fatalf("%s, side %d: %x, %v", full, side, x.Remote, x.HasRemote)
		}
	}
}

// P19.8, P0.3: both sides with each pair of engines, of all 38 patterns.
func TestPairsOfEngines(t *testing.T) {
	inParts(t, tabled(), func(t *testing.T, i int, full string) {
		d := draw(70 + i)
		for a := range 2 {
			for b := range 2 {
				of := [2]suite.Suite{suite.Fast(trace.New()), suite.Plain()}
				agree(t, full, setups(full, d), [2]suite.Suite{of[a], of[b]}, &d)
			}
		}
	})
}

// P19.8: those with psk words and with fallback too, on a zero Suite and one that has no Recorder.
func TestOtherPairs(t *testing.T) {
	inParts(t, modified(), func(t *testing.T, i int, full string) {
		d := draw(71 + i)
		agree(t, full, setups(full, d), [2]suite.Suite{{}, suite.Fast(nil)}, &d)
		agree(t, full, setups(full, d), [2]suite.Suite{suite.Fast(trace.New()), suite.Plain()}, &d)
	})
}

// P19.8: and each name that there is, on the fast engine.
func TestEveryNameAgrees(t *testing.T) {
	inParts(t, everyName(t), func(t *testing.T, i int, full string) {
		d := draw(72 + i)
		agree(t, full, setups(full, d), [2]suite.Suite{suite.Fast(nil), suite.Fast(nil)}, &d)
	})
}

// P19.8, P0.3: whatever the keys, psks and draws are: noughts, ones, the same for all.
func TestAnyKeysAgree(t *testing.T) {
	inParts(t, []string{"NN", "KKpsk0+psk2", "XX", "IK", "X", "XXfallback"}, func(t *testing.T, i int, full string) {
		d := draw(73)
		for _, b := range []byte{0, 1, 0x7f, 0x80, 0xff} {
			key := api.Key(bytes.Repeat([]byte{b}, 32))
			u := setups(full, 74)
			for side := range u {
				u[side].Static, u[side].Former, u[side].Draws = key, key, []api.Key{key}
				u[side].Remote, u[side].Ephemeral = publicOf(key), publicOf(key)
				for n := range u[side].Psks {
					u[side].Psks[n] = key
				}
			}
			agree(t, full, u, [2]suite.Suite{suite.Fast(nil), suite.Plain()}, &d)
		}
	})
}

// P19.8: rekeyed on one side alone, or at another place, or of the other way, a message is not read.
func TestRekeyedApart(t *testing.T) {
	for _, x := range []struct{ i, r []int }{
		{[]int{out}, nil}, {nil, []int{in}}, {[]int{out}, []int{out}}, {[]int{in}, []int{in}}, {[]int{out, out}, []int{in}}, {[]int{out}, []int{in, in}},
	} {
		both := over(sides(t, "NN", 75))
		for side, ways := range [2][]int{x.i, x.r} {
			for _, way := range ways {
				both[side].must("Rekey", both[side].rekey(way), nil)
			}
		}
		_, err := both[second].read(both[first].mustWrite([]byte("hail")))
		both[second].must("Read", err, api.ErrAuth)
	}
}

// P19.8: many messages both ways, in any turns, rekeyed here and there at the same places.
func TestLongTalk(t *testing.T) {
	for _, full := range []string{"NN", "N", "NNfallback"} {
		d := draw(76)
		both := over(watched(t, full, 76))
		for range 120 {
			from := senders(full)[d.below(len(senders(full)))]
			if d.below(6) == 0 {
				both[from].must("Rekey", both[from].rekey(out), nil)
				both[1-from].must("Rekey", both[1-from].rekey(in), nil)
			}
			say(both, from, d.bytes(d.below(300)))
		}
		a, b := both[first].s.Sight(), both[second].s.Sight()
		if a.Out != b.In || a.In != b.Out || a.Out+a.In != 120 {
			t.Errorf("%s: %+v, %+v", full, a, b)
		}
	}
}

// P19.8: messages that are on the way at the same time, of both ways, are read in their order.
func TestCrossing(t *testing.T) {
	both := over(sides(t, "XX", 77))
	d := draw(77)
	var onTheWay [2][][]byte
	for n := range 20 {
		from := d.below(2)
		onTheWay[from] = append(onTheWay[from], both[from].mustWrite([]byte{byte(n)}))
	}
	for from, messages := range onTheWay {
		for _, message := range messages {
			if _, err := both[1-from].read(message); err != nil {
				t.Fatal(err)
			}
		}
	}
}

// P0.3: sides that do not have the same come apart where a key first hangs on it.
func TestApart(t *testing.T) {
	for what, change := range map[string]func(u *api.Setup){
		"Prologue": func(u *api.Setup) { u.Prologue = append(u.Prologue, 0) },
		"Psks":     func(u *api.Setup) { u.Psks[0][31] ^= 128 },
		"Remote":   func(u *api.Setup) { u.Remote[0] ^= 1 },
		"Name":     func(u *api.Setup) { u.Name = nameOf("IKpsk2") },
	} {
		u := setups("IKpsk1", 78)
		change(&u[first])
		both := [2]*one{sideOf(t, suite.Fast(nil), u[first]), sideOf(t, suite.Fast(nil), u[second])}
		if _, err := both[second].read(both[first].mustWrite(nil)); err != api.ErrStatic && err != api.ErrAuth {
			t.Errorf("%s: %v", what, err)
		}
	}
}
