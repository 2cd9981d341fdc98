package handshake_test

import (
	"bytes"
	"testing"

	"pintle/api"
)

// P18.5, P0.7: behind each failing Read it is dead for ever: Write, Read, Size and Split say so, whatever they are handed, and Turn, Over, Hash and Remote tell what they told ahead of it.
func TestDeadForEver(t *testing.T) {
	inParts(t, fragile(t), func(t *testing.T, i int, p api.Pattern) {
		for message := range p.Lines {
			for _, want := range []error{api.ErrShort, api.ErrStatic, api.ErrAuth} {
				both := passed(t, p, 31, message)
				from := both[first].m.turn()
				right, o := both[from].mustWrite([]byte("hail")), both[1-from]
				wrong := failing(p, message, right, want)
				if wrong == nil {
					continue
				}
				hash, turn := o.h.Hash(), o.h.Turn()
				remote, is := o.h.Remote()
				if _, err := o.read(wrong); err != want {
					t.Fatalf("%v, message %d: %v, not %v", p, message, err, want)
				}
				for range 2 {
					o.mustRefuse(api.ErrDead, api.ErrDead, api.ErrDead, api.ErrDead)
					for _, again := range [][]byte{right, wrong, nil, make([]byte, limit), make([]byte, limit+1)} {
						_, err := o.read(again)
						_, err2 := o.write(again)
						_, err3 := o.size(len(again))
						_, err4 := o.size(-1)
						if err != api.ErrDead || err2 != api.ErrDead || err3 != api.ErrDead || err4 != api.ErrArg {
							t.Fatalf("%v, message %d: %v, %v, %v, %v", p, message, err, err2, err3, err4)
						}
					}
				}
				key, known := o.h.Remote()
				if !o.h.Dead() || o.h.Over() || o.h.Hash() != hash || o.h.Turn() != turn || key != remote || known != is {
					t.Fatalf("%v, message %d, %v: not as ahead of it", p, message, want)
				}
			}
		}
	})
}

// failing is a message that fails so, or nil, if none of that place can.
func failing(p api.Pattern, message int, right []byte, want error) []byte {
	wrong := bytes.Clone(right)
	tokens := p.Lines[message].Tokens
	switch want {
	case api.ErrShort:
		return wrong[:leastOf(p, message)-1]
	case api.ErrStatic:
		for place, token := range tokens {
			if token == s && underKey(p, message, place) {
				wrong[lengthUpTo(p, message, place)+40] ^= 1
				return wrong
			}
		}
		return nil
	}
	if !underKey(p, message, len(tokens)) {
		return nil
	}
	wrong[len(wrong)-1] ^= 128
	return wrong
}

// P18.5: what Met tells behind a message that ends ahead of, within and behind the 32 bytes of its e, wherever this stands, and where none stands in it.
func TestDeadMet(t *testing.T) {
	for _, x := range []struct {
		p       api.Pattern
		message int
		from    int  // of the e; -1: there is none
		known   bool // the e was known ahead
	}{
		{modified(t, "NN"), 0, 0, false}, {modified(t, "XX"), 1, 0, false}, {modified(t, "IX", "psk0"), 0, 0, false}, {modified(t, "X"), 0, 0, false},
		{modified(t, "XX"), 2, -1, true}, {modified(t, "XX", "fallback"), 1, -1, true}, {modified(t, "X1X1"), 3, -1, true},
		{made("", "", "s"), 0, -1, false}, {made("", "", "s; s, e"), 0, -1, false},
		{made("", "", "s, e"), 0, 32, false}, {made("", "", "s; s, e"), 1, 32, false}, {made("", "", "e; s, e, psk"), 1, 48, false}, {made("", "", "s, e; s, e, psk"), 0, 32, false}, {made("", "", "s, e; s, e, psk"), 1, 48, false},
		{made("e, s", "e, s", "psk, ee, es, se, ss"), 0, -1, true},
	} {
		least := leastOf(x.p, x.message)
		for _, n := range []int{0, 1, 15, 16, 31, 32, 33, 47, 48, 49, 63, 64, 65, 79, 80, 81, 95, 96, least - 1, least, least + 2} {
			if n > least+2 {
				continue
			}
			both := passed(t, x.p, 32, x.message)
			from := both[first].m.turn()
			right, o := both[from].mustWrite([]byte("hail")), both[1-from]
			ahead, was := o.h.Met()
			wrong := bytes.Clone(right)[:n]
			if n >= least && underKey(x.p, x.message, 0) {
				wrong[n-1] ^= 1
			}
			_, err := o.read(wrong)
			met, is := o.h.Met()
			want, wanted := ahead, was
			if x.from >= 0 && n >= x.from+32 {
				want, wanted = api.Key(wrong[x.from:x.from+32]), true
			}
			if was != x.known || met != want || is != wanted || n < least && err != api.ErrShort {
				t.Fatalf("%v, message %d, %d bytes: %v, %x, %v", x.p, x.message, n, err, met, is)
			}
		}
	}
}

// P18.5: a sealed s that fails ahead of the e: the tokens do not come to the e, but Met tells it.
func TestDeadMetBehindStatic(t *testing.T) {
	both := passed(t, made("", "", "e; s, e, psk"), 33, 1)
	right, o := both[second].mustWrite([]byte("hail")), both[first]
	right[3] ^= 4
	if _, err := o.read(right); err != api.ErrStatic {
		t.Fatal(err)
	}
	met, is := o.h.Met()
	if remote, known := o.h.Remote(); met != api.Key(right[48:80]) || !is || remote != (api.Key{}) || known {
		t.Errorf("%x, %v, %x, %v", met, is, remote, known)
	}
}

// P18.5: a sealed s that was opened ahead of what failed is not told.
func TestDeadRemote(t *testing.T) {
	both := passed(t, modified(t, "XX"), 34, 1)
	right, o := both[second].mustWrite([]byte("hail")), both[first]
	right[len(right)-1] ^= 4
	if _, err := o.read(right); err != api.ErrAuth {
		t.Fatal(err)
	}
	if remote, known := o.h.Remote(); remote != (api.Key{}) || known {
		t.Errorf("%x, %v", remote, known)
	}
	both = passed(t, modified(t, "IX"), 34, 0) // an s that is open fails with the length alone
	right, o = both[first].mustWrite(nil), both[second]
	if _, err := o.read(right[:63]); err != api.ErrShort {
		t.Fatal(err)
	}
	if remote, known := o.h.Remote(); remote != (api.Key{}) || known {
		t.Errorf("%x, %v", remote, known)
	}
}
