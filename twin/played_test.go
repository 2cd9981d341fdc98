package twin_test

import (
	"crypto/sha256"
	"encoding/hex"
	"fmt"
	"strings"
	"testing"

	"pintle/api"
	"pintle/twin"
)

// digests are of sessions that another program of the same protocol has played, by the rule of played below: of each of these patterns without a word, with psk0, psk1 and so on; of each the first 8 bytes of SHA-256 of all that went over the line, with the hash behind the handshake.
const digests = `
IK 147cd856718a6693 3f973902c0285736 63a4dd3e0a0a8e56 32f02c02c07f2ea7
IX 80a647c95312063d 5659f1241ad21e89 926c7e46d7a87920 230920b95b8ad95c
K a1259db41c6020e9 952d916f600ab0b9 9b27170cec296234
KK 298420bd71606b5f 4e64396d3a6eabf2 c019f4b3f9228b13 00b74f0d30fc6e76
N 99309db32d118dc7 127aa9abff004ac4 b32094d11013fbf7
NN 2b6a43f3c0dcc16c 3c0419249296bc8e b599e8c26621f2d6 7479dd46bed5fcab
X e4cc38ffca4c78ac 7198a9c2357e6445 3e3a55fac1e3be46
X1X1 53c2ba20add3e9a8 165908c6583f173d e08f709bbc2d486c cfbc2a0327a3ae87 ec3189119e165706 a0e615d53220f620
XK1 a073a877c909d6d2 8037f3248ea2c9e5 a74ddd8afcca85cb 7fda18491ac048f1 22dbb6061c336d05
XX d8ece2b514d2d228 2f50d4677255c368 dc6eee0770fbe6b9 58df2f84a4e535a8 f126c08a2043b73a
`

// counted is 32 bytes from b on.
func counted(b byte) (key api.Key) {
	for i := range key {
		key[i] = b + byte(i)
	}
	return key
}

// playedSetups are those of each digest: of whatever name, of one psk if it has one.
func playedSetups(full string) [2]api.Setup {
	var u [2]api.Setup
	for side := range u {
		u[side] = api.Setup{
			Name: nameOf(full), Initiator: side == first, Prologue: []byte("pintle"),
			Static: counted(byte(1 + 40*side)), HasStatic: true, Remote: publicOf(counted(byte(41 - 40*side))), HasRemote: true,
			Draws: []api.Key{counted(byte(81 + 40*side))},
		}
		if strings.Contains(full, "psk") {
			u[side].Psks = []api.Key{counted(161)}
		}
	}
	return u
}

// line is two scripts that grow, message by message, and what has gone over the line between them; nothing but twin is asked.
type line struct {
	t       *testing.T
	full    string
	setups  [2]api.Setup
	engines [2]int
	steps   [2][]api.Step
	gone    []byte
}

// do is what the script of a side answers to one step more.
func (l *line) do(side int, step api.Step) api.Answer {
	l.t.Helper()
	l.steps[side] = append(l.steps[side], step)
	got, err := twin.Play(l.engines[side], l.setups[side], l.steps[side])
	if err != nil || len(got) != len(l.steps[side]) {
		l.t.Fatalf("%s: %d answers, %v", l.full, len(got), err)
	}
	a := got[len(got)-1]
	if a.Err != nil {
		l.t.Fatalf("%s, step %d of the kind %d: %v", l.full, len(got)-1, step.Kind, a.Err)
	}
	return a
}

func (l *line) say(from int, payload string) {
	l.t.Helper()
	message := l.do(from, api.Step{Kind: write, Data: []byte(payload)}).Data
	if got := l.do(1-from, api.Step{Kind: read, Data: message}).Data; string(got) != payload {
		l.t.Fatalf("%s: %q, not %q", l.full, got, payload)
	}
	l.gone = append(l.gone, message...)
}

// ofBoth does something to the way out of one side and to the way in of the other one.
func (l *line) ofBoth(from int, step api.Step) {
	l.t.Helper()
	step.Way = out
	l.do(from, step)
	step.Way = in
	l.do(1-from, step)
}

// played is a session's digest: its handshake, its hash, and of each way that it has four further messages, the third one rekeyed, the fourth one with another number.
func played(t *testing.T, full string, engines [2]int) string {
	t.Helper()
	l := &line{t: t, full: full, setups: playedSetups(full), engines: engines}
	x := l.do(first, api.Step{Kind: sight}).Sight
	for n := 0; !x.Over; n++ {
		l.say(x.Turn, fmt.Sprint("message ", n))
		x = l.do(first, api.Step{Kind: sight}).Sight
	}
	if other := l.do(second, api.Step{Kind: sight}).Sight; !other.Over || other.Hash != x.Hash {
		t.Fatalf("%s: %+v, not %+v", full, other, x)
	}
	l.gone = append(l.gone, x.Hash[:]...)
	for _, from := range senders(full) {
		l.say(from, "further 0")
		l.say(from, "further 1")
		l.ofBoth(from, api.Step{Kind: rekey})
		l.say(from, "further 2")
		l.ofBoth(from, api.Step{Kind: nonce, Number: 1 << 40})
		l.say(from, "further 3")
	}
	sum := sha256.Sum256(l.gone)
	return hex.EncodeToString(sum[:8])
}

// P0.1, P22.1: whole sessions, played by scripts alone, are, byte by byte, those of another program, on either engine.
func TestPlayed(t *testing.T) {
	inParts(t, strings.Split(strings.TrimSpace(digests), "\n"), func(t *testing.T, i int, row string) {
		words := strings.Fields(row)
		for n, want := range words[1:] {
			full := words[0]
			if n > 0 {
				full += fmt.Sprint("psk", n-1)
			}
			pair := [2]int{engines()[(i+n)%2], engines()[(i+n+1)%2]}
			if got := played(t, full, pair); got != want {
				t.Errorf("%s on %v: %s, not %s", full, pair, got, want)
			}
		}
	})
}
