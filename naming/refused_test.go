package naming_test

import (
	"strconv"
	"strings"
	"testing"

	"pintle/naming"
)

// P16.1: one of the two ends missing, doubled, changed in its letters, at the other end.
func TestEnds(t *testing.T) {
	fronts := []string{"", front + front, "noise_", "NOISE_", "Noise", "Noise-", "Noise__", " " + front, "\x00" + front, "Noise\x00", back, "oise_", "_", "Noisy_", "Noise_ "}
	backs := []string{"", back + back, strings.ToLower(back), strings.ToUpper(back), back[1:], "_" + back, back + " ", back + "\n", back + "\x00", back + "_", back + "s",
		front, "_25519_ChaChaPoly_BLAKE2b", "_448_ChaChaPoly_BLAKE2s", "_25519_AESGCM_BLAKE2s", "_25519_ChaChaPoly_SHA256", "_25519_ChaChaPoly", "_25519", "_", " " + back}
	for _, full := range append(some(), "", "+", "x") {
		mustParse(t, front+full+back)
		mustRefuse(t, full)
		for _, one := range fronts {
			mustRefuse(t, one+full+back)
			for _, other := range backs {
				mustRefuse(t, one+full+other)
			}
		}
		for _, other := range backs {
			mustRefuse(t, front+full+other)
		}
		mustRefuse(t, back+full+front)
	}
}

// P16.1: both ends that run into each other, and nothing between them.
func TestEndsMeet(t *testing.T) {
	mustRefuse(t, "Noise_25519_ChaChaPoly_BLAKE2s")
	mustRefuse(t, "Noise__25519_ChaChaPoly_BLAKE2s")
	mustRefuse(t, "Noise25519_ChaChaPoly_BLAKE2s")
	mustRefuse(t, front)
	mustRefuse(t, back)
	mustRefuse(t, "_")
	for at := range len(front) + 1 {
		for from := range len(back) + 1 {
			mustRefuse(t, front[:at]+back[from:])
		}
	}
}

// P16.1: names cut at every place, from either end; a byte left out, doubled, two of them the other way round.
func TestCut(t *testing.T) {
	for _, full := range some() {
		name := front + full + back
		for at := range len(name) {
			mustRefuse(t, name[:at])
			mustParse(t, name[at:])
			mustParse(t, name[:at]+name[at+1:])
			mustParse(t, name[:at+1]+name[at:])
			if at > 0 {
				mustRefuse(t, name[at:])
				mustParse(t, name[:at-1]+name[at:at+1]+name[at-1:at]+name[at+1:])
			}
		}
	}
}

// P16.1: any byte in the place of each one, and ahead of each one.
func TestEveryByte(t *testing.T) {
	count := 0
	for _, full := range some() {
		name := front + full + back
		for at := range len(name) + 1 {
			for b := range 256 {
				one := string([]byte{byte(b)})
				if mustParse(t, name[:at]+one+name[at:]) {
					count++
				}
				if at < len(name) && mustParse(t, name[:at]+one+name[at+1:]) {
					count++
				}
			}
		}
	}
	if count < 8*len(front+back) { // each byte stands once in its own place
		t.Errorf("%d are taken", count)
	}
}

// P16.1: bases that are none of the table: every one of up to five signs of a small choice, with words and without.
func TestBases(t *testing.T) {
	signs := []string{"N", "K", "X", "I", "1", "0", "2", "Y", "n"}
	var grow func(base string, left int)
	plain := 0
	grow = func(base string, left int) {
		if mustParse(t, front+base+back) {
			plain++
		}
		mustParse(t, front+base+"psk0"+back)
		if left == 0 {
			return
		}
		for _, sign := range signs {
			grow(base+sign, left-1)
		}
	}
	grow("", 5)
	if plain != 38 {
		t.Errorf("%d are taken", plain)
	}
	for base := range bases() {
		for _, other := range []string{strings.ToLower(base), base + base + base, base + "1", "1" + base, base + "0", "0" + base, base + "A", base + "Z", base + " ", " " + base, base + "\n", base + ":", base + "_", base + "-", base + "É", "\xff" + base, base + "\x00"} {
			mustParse(t, front+other+back)
			mustParse(t, front+other+"psk0"+back)
			mustParse(t, front+other+"fallback"+back)
		}
	}
}

// P16.1: what comes behind the base and is no word: empty ones, pluses at odd places, a digit first, other signs.
func TestNoWords(t *testing.T) {
	for _, behind := range []string{
		"+", "++", "+psk0", "++psk0", "psk0+", "psk0++", "psk0++psk1", "psk0+++psk1", "+psk0+psk1", "psk0+psk1+", "psk0+psk1++", "psk0+ +psk1", "fallback+", "+fallback", "fallback++psk0",
		"psk0+0psk1", "psk0+1", "psk0+0", "psk0+1psk", "psk0+psk1+2", "0psk", "2psk0", "9psk0", "+0", "+1psk0", "0", "psk0+P", "psk0+Psk1", "psk0+PSK1", "psk0X", "psk0XX", "psk0+XX", "psk0+pSk1",
		"psk0 psk1", "psk0,psk1", "psk0-psk1", "psk0_psk1", "_psk0", "psk0_", "psk0 ", " psk0", " ", "\n", "psk0\n", "psk0+psk1\n", "\x00", "psk0\x00", "psk0+\x00", "psk\x000", "psk0\xff", "\xff", "é", "psk0é", "psk０", "psk٠", "psk0＋psk1",
		"psk/", "psk:", "psk@", "psk`", "psk{", "psk[", "/psk0", ":psk0", "@psk0", "[psk0", "`psk0", "{psk0", "psk0/", "psk0:", "psk0+@", "psk0+[", "psk0+`", "psk0+{", "psk0*psk1", "psk0.psk1",
	} {
		for _, base := range []string{"XX", "NN", "N", "X1X1"} {
			mustRefuse(t, front+base+behind+back)
		}
	}
}

// P16.1: words that Modify refuses: that stand nowhere, fall, stand twice, have noughts ahead, are above the messages; fallback later, and where it may not stand.
func TestWrongWords(t *testing.T) {
	for _, words := range []string{
		"psk", "ps", "p", "x", "a", "z", "pskx", "psk0x", "pskpsk0", "psk0psk1", "fall", "fallbac", "fallbackk", "fallback0", "fallbackpsk0", "psk0fallback", "fallbackfallback", "hfs", "psk1e0", "psk0b", "xpsk0", "noise",
		"psk1+psk0", "psk2+psk1", "psk3+psk0", "psk0+psk2+psk1", "psk0+psk1+psk0", "psk3+psk2+psk1+psk0", "fallback+psk1+psk0",
		"psk0+psk0", "psk1+psk1", "psk3+psk3", "psk0+psk1+psk1", "fallback+psk0+psk0", "fallback+fallback",
		"psk00", "psk01", "psk02", "psk003", "psk0000", "psk0+psk01", "psk1+psk02", "fallback+psk00", "fallback+psk01", "psk" + strings.Repeat("0", 200), "psk" + strings.Repeat("0", 199) + "1",
		"psk4", "psk5", "psk9", "psk10", "psk11", "psk30", "psk256", "psk257", "psk65536", "psk4294967296", "psk4294967297", "psk9223372036854775808", "psk18446744073709551616", "psk18446744073709551617", "psk" + strings.Repeat("9", 200),
		"psk1" + strings.Repeat("0", 200), "psk0+psk4", "psk0+psk1+psk2+psk3+psk4", "fallback+psk3", "fallback+psk4", "fallback+psk0+psk1+psk2+psk3", "psk3+psk4",
		"psk0+fallback", "psk3+fallback", "psk0+psk1+fallback", "fallback+psk0+fallback", "fallback+psk0+psk1+psk2+fallback",
		"psk0+x", "x+psk0", "fallback+x", "x+fallback", "psk0+psk", "psk0+psk1+hfs", "hfs+psk0",
	} {
		mustRefuse(t, front+"XX"+words+back)
	}
	for base, messages := range bases() {
		mustTake(t, front+base+"psk"+strconv.Itoa(messages)+back, modified(t, parted{base, []string{"psk" + strconv.Itoa(messages)}}))
		mustRefuse(t, front+base+"psk"+strconv.Itoa(messages+1)+back)
		mustRefuse(t, front+base+"fallback+psk"+strconv.Itoa(messages)+back)
		mustRefuse(t, front+base+"psk0+fallback"+back)
	}
	for _, base := range strings.Fields(stays) {
		mustRefuse(t, front+base+"fallback"+back)
		mustRefuse(t, front+base+"fallback+psk0"+back)
	}
}

// stretched is a name of so many bytes: a middle that is said as often as there is room, and the rest of the room in one sign.
func stretched(size int, ahead, middle, sign, behind string) string {
	room := size - len(ahead) - len(behind)
	times := room / len(middle)
	return ahead + strings.Repeat(middle, times) + strings.Repeat(sign, room-times*len(middle)) + behind
}

// P16.1: names of MaxName bytes and of more. (What is taken is never as long as that: the longest one has 63 bytes.)
func TestLong(t *testing.T) {
	longest := 0
	for full := range taken() {
		longest = max(longest, len(front+full+back))
	}
	if longest != 63 {
		t.Errorf("the longest name has %d bytes", longest)
	}
	mustTake(t, front+"X1X1fallback+psk0+psk1+psk2+psk3"+back, modified(t, parted{"X1X1", []string{"fallback", "psk0", "psk1", "psk2", "psk3"}}))
	for _, size := range []int{limit - 1, limit, limit + 1, limit + 2, 2 * limit, 65535, 65536, 1 << 20} {
		for _, name := range []string{
			stretched(size, front, "X", "X", back),
			stretched(size, front+"XX", "1", "1", back),
			stretched(size, front+"XX", "a", "a", back),
			stretched(size, front+"XXpsk", "0", "0", back),
			stretched(size, front+"XXpsk", "0", "0", "1"+back),
			stretched(size, front+"XXpsk1", "0", "0", back),
			stretched(size, front+"XXpsk0", "+psk1", "1", back),
			stretched(size, front+"XX", "psk0+", "p", back),
			stretched(size, front+"XX", "+", "+", back),
			stretched(size, front+"XXpsk0", "+", "+", back),
			stretched(size, front+"XX", back, "s", back),
			stretched(size, "", front, "N", "XX"+back),
			stretched(size, front+"XX"+back, " ", " ", ""),
			stretched(size, front+"XX"+back, "\x00", "\x00", ""),
			stretched(size, "", " ", " ", front+"XX"+back),
			stretched(size, "", "\x00", "\x00", ""),
			stretched(size, "", "\xff\xfe", "\xff", ""),
			stretched(size, front, "N", "O", ""),
		} {
			if len(name) != size {
				t.Fatalf("%d bytes, not %d", len(name), size)
			}
			mustRefuse(t, name)
		}
	}
}

// P16.1: a name of more than MaxName bytes is refused for its length: no word of it is laid into a list. (No answer tells that, but the memory that is asked for does.)
func TestLongIsNotRead(t *testing.T) {
	made := func(size int) float64 {
		name := stretched(size, front+"XXpsk0", "+psk1", "1", back)
		return testing.AllocsPerRun(10, func() { naming.Parse(name) })
	}
	if made(limit) == 0 {
		t.Error("a name of MaxName bytes is not read")
	}
	for _, size := range []int{limit + 1, 2 * limit, 1 << 20} {
		if n := made(size); n != 0 {
			t.Errorf("%d bytes: %v pieces of memory", size, n)
		}
	}
}

// P16.1, W1: any bytes, and names put together of parts, of which many are taken.
func TestDrawn(t *testing.T) {
	d := draw(16)
	for range 20000 {
		text := make([]byte, d.below(80))
		for i := range text {
			text[i] = byte(d.below(256))
		}
		mustParse(t, string(text))
		mustParse(t, front+string(text)+back)
	}
	parts := []string{"X", "N", "K", "I", "1", "XX", "X1X1", "NN", "psk", "psk0", "psk1", "psk2", "psk3", "0", "1", "+", "+psk1", "+psk2", "+psk3", "fallback", "fallback+psk0", "_", front, back}
	count := 0
	for range 200000 {
		full := ""
		for range 1 + d.below(4) {
			full += d.of(parts)
		}
		if mustParse(t, front+full+back) {
			count++
		}
	}
	if count < 2000 {
		t.Errorf("%d are taken", count)
	}
}
