package session_test

import (
	"crypto/sha256"
	"encoding/hex"
	"fmt"
	"strings"
	"testing"

	"pintle/api"
	"pintle/session"
	"pintle/suite"
)

// digests are of sessions that another program of the same protocol has played, by the rule of played below: of each pattern without a word, with psk0, psk1 and so on; of each the first 8 bytes of SHA-256 of all that went over the line, with the hash behind the handshake.
const digests = `
I1K eb7d5bab0f78b766 9c5df1582427c510 c73e34a840d3cda3 f8b80dfe812aebcf be3928f1dac59f57
I1K1 8685059edccc4ee1 95490b157bf7c914 acdfe5019b738140 888bc6af3a63494b fcd9c4453086b86f
I1N 60c77c209be056d2 bc9eac7df8fef026 216271659cfb9906 0444057df3c6fde9 d88b99e08d381a90
I1X 876f261a58faa7e1 c8473e0f202004c9 97170d751aa703a6 817dd6776014c264 f2df5b67f66bc9d1
I1X1 89d5b6dfa7b427b7 8211661b76b2846c d8fa5c44d9a94ce0 dc9283a3c12890b4 a63cace4834c30b5
IK 147cd856718a6693 3f973902c0285736 63a4dd3e0a0a8e56 32f02c02c07f2ea7
IK1 09f1da3cf2cb195d ff0cdcf750827c89 fdc58b2e45d43ece a2aa9c66279ace57
IN 4920504cf82bc32c 123e5bee52d5ce66 0e8e8e7110068a44 d193150b9f02ef90
IX 80a647c95312063d 5659f1241ad21e89 926c7e46d7a87920 230920b95b8ad95c
IX1 3a7eec8550e1a42f 8bea10867e111e6d 385b3ee88eaed465 6cf664150d90edfb 10d17aba12336e3d
K a1259db41c6020e9 952d916f600ab0b9 9b27170cec296234
K1K 68050595bfdc89ea d34d7fc62110fb08 ff8e5a5985f06864 d2beb7a853121f9e c5d7b449b0ce82d0
K1K1 c5d3be73b5712d4f 524d706c3bbad622 d6cdf78f8f61e198 254b8b67862f7493 a2952eefa76a55fa
K1N f55ede091af87a44 da54cc5af3e3783a 0ae1e1bb727eae3f afdf6bfb10bd1179 7e113d0c841642fd
K1X 051a47a05dbaea2e 5c0808cb143ce914 2a4bcfa0e365a808 1bf04efd0b2935f4 0c563b5fdcdb4c89
K1X1 276b29ccc4df403d 02a505028119831f 2040620544f4dec5 1034feb5c974597a 380402d260b2a1c6
KK 298420bd71606b5f 4e64396d3a6eabf2 c019f4b3f9228b13 00b74f0d30fc6e76
KK1 088cdcd3d8e16507 d5e1b2d86764880c ebf6ecb45a9d4d07 81e1d7545a1ce975
KN c262485b8b4f977d 9460d0b83306559e e109f001de36c9f6 a5436c6c64c65323
KX 596a5f397f303291 9e224ddce603caf4 3086d7555eaa4436 d2c8d70fb2ddef18
KX1 bca6eb25a92e8f65 90e39b84f0d65d32 180d2e6d069fe4f4 28e2b6982aeb56c5 52bcefc119ed6522
N 99309db32d118dc7 127aa9abff004ac4 b32094d11013fbf7
NK 600beedb090e4c13 0bbdc19b216dd4ad 51102c4b2d9568a0 509508f04cc16467
NK1 dd1ab7bfe38224ac 49c45157ec1d4a86 3d53175a374015f9 32a4a75cfd887866
NN 2b6a43f3c0dcc16c 3c0419249296bc8e b599e8c26621f2d6 7479dd46bed5fcab
NX 696afbc13d567752 87371dbf54cb3214 7c746d82de6c76d7 d3ef144c3ea2aa45
NX1 478d81207f63dffe 552d652b26485f77 c75691f4851ead41 f7a29d6a0567f01d 9a97c6a2c5a0105c
X e4cc38ffca4c78ac 7198a9c2357e6445 3e3a55fac1e3be46
X1K 3488ae1bf9053ac6 f753e86b0f0ea39e e43683edbab4ec62 56f3089072f66f7c 5ac270826b01167f f5ab9cabd7b48a3e
X1K1 821f8f1aba9a9653 ece33028317d423f 1609866317ec8781 4bf96fba878f4cd5 46a586c85779ee5d a8d783478d8bf5cd
X1N 9b2f70a8439c7f42 06cd17633d1f130c 1862c8bde6e757de 41aac2e5b4f80a66 c121aee45f0af33e 267e5d65b5b928b5
X1X 92a5d3f6e85a8515 4524ec22a189cda0 6661add9f18edbeb 62869002149abb91 ddd533b302b384ae 4b1710653a5166e5
X1X1 53c2ba20add3e9a8 165908c6583f173d e08f709bbc2d486c cfbc2a0327a3ae87 ec3189119e165706 a0e615d53220f620
XK 0c56f38ce8c379c1 8be38cee769420b3 6bca3b6c0c4a28cc 94f605bfefbb5189 329a19354abde76e
XK1 a073a877c909d6d2 8037f3248ea2c9e5 a74ddd8afcca85cb 7fda18491ac048f1 22dbb6061c336d05
XN 38c4e4a363dad8cb f12ba0e8355b8f49 38c87d2cc2ee8529 b935bb4eb81b6203 c62080bf5559681a
XX d8ece2b514d2d228 2f50d4677255c368 dc6eee0770fbe6b9 58df2f84a4e535a8 f126c08a2043b73a
XX1 dff45a797642d666 8cd439f070ff0e23 e3422e042f7dd621 e39b15ab601089c5 7f98b0e94db165bc
`

// counted is 32 bytes from b on.
func counted(b byte) (key api.Key) {
	for i := range key {
		key[i] = b + byte(i)
	}
	return key
}

// playedSetups are those of each digest: of whatever name, of one psk if it has one.
func playedSetups(full string) [2]api.Setup {
	var u [2]api.Setup
	for side := range u {
		u[side] = api.Setup{
			Name: nameOf(full), Initiator: side == first, Prologue: []byte("pintle"),
			Static: counted(byte(1 + 40*side)), HasStatic: true, Remote: publicOf(counted(byte(41 - 40*side))), HasRemote: true,
			Draws: []api.Key{counted(byte(81 + 40*side))},
		}
		if strings.Contains(full, "psk") {
			u[side].Psks = []api.Key{counted(161)}
		}
	}
	return u
}

// line is two sides and what has gone over the line between them.
type line struct {
	t    *testing.T
	full string
	both [2]*session.Session
	gone []byte
}

func (l *line) say(from int, payload string) {
	l.t.Helper()
	message, err := l.both[from].Write([]byte(payload))
	got, err2 := l.both[1-from].Read(message)
	if err != nil || err2 != nil || string(got) != payload {
		l.t.Fatalf("%s: %v, %v, %q, not %q", l.full, err, err2, got, payload)
	}
	l.gone = append(l.gone, message...)
}

// ofBoth does something to the way out of one side and to the way in of the other one.
func (l *line) ofBoth(from int, do func(s *session.Session, way int) error) {
	l.t.Helper()
	if err, err2 := do(l.both[from], out), do(l.both[1-from], in); err != nil || err2 != nil {
		l.t.Fatalf("%s: %v, %v", l.full, err, err2)
	}
}

// played is a session's digest: its handshake, its hash, and of each way that it has four further messages, the third one rekeyed, the fourth one with another number.
func played(t *testing.T, full string, engines [2]suite.Suite) string {
	t.Helper()
	l := &line{t: t, full: full}
	for side, u := range playedSetups(full) {
		s, err := session.New(engines[side], u)
		if err != nil {
			t.Fatalf("%s: %v", full, err)
		}
		l.both[side] = s
	}
	for n := 0; !l.both[first].Sight().Over; n++ {
		l.say(l.both[first].Sight().Turn, fmt.Sprint("message ", n))
	}
	hash := l.both[first].Sight().Hash
	l.gone = append(l.gone, hash[:]...)
	for _, from := range senders(full) {
		l.say(from, "further 0")
		l.say(from, "further 1")
		l.ofBoth(from, (*session.Session).Rekey)
		l.say(from, "further 2")
		l.ofBoth(from, func(s *session.Session, way int) error { return s.SetNonce(way, 1<<40) })
		l.say(from, "further 3")
	}
	sum := sha256.Sum256(l.gone)
	return hex.EncodeToString(sum[:8])
}

// P0.1, P0.3, P19.2 to P19.5: whole sessions are, byte by byte, those of another program, on either engine.
func TestPlayed(t *testing.T) {
	rows := strings.Split(strings.TrimSpace(digests), "\n")
	if len(rows) != 38 {
		t.Fatalf("%d patterns", len(rows))
	}
	inParts(t, rows, func(t *testing.T, i int, row string) {
		words := strings.Fields(row)
		for n, want := range words[1:] {
			full, pair := words[0], [2]suite.Suite{suite.Fast(nil), suite.Fast(nil)}
			if n > 0 {
				full += fmt.Sprint("psk", n-1)
			} else {
				pair[i%2] = suite.Plain()
			}
			if got := played(t, full, pair); got != want {
				t.Errorf("%s: %s, not %s", full, got, want)
			}
		}
		if len(words) != messagesOf(t, words[0])+3 {
			t.Errorf("%s: %d digests", words[0], len(words)-1)
		}
	})
}
