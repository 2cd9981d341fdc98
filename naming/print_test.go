package naming_test

import (
	"strings"
	"testing"

	"pintle/api"
	"pintle/naming"
)

// mustPrint holds Print against what is to be taken.
func mustPrint(t *testing.T, full string) {
	t.Helper()
	want, wantErr := "", api.ErrName
	if _, ok := taken()[full]; ok {
		want, wantErr = front+full+back, nil
	}
	if got, err := naming.Print(full); got != want || err != wantErr {
		t.Fatalf("Print(%q): %q, %v, not %q, %v", full, got, err, want, wantErr)
	}
}

// mustNotPrint asks for ErrName and no text.
func mustNotPrint(t *testing.T, full string) {
	t.Helper()
	if got, err := naming.Print(full); got != "" || err != api.ErrName {
		t.Fatalf("Print(%q): %q, %v", full, got, err)
	}
}

// P16.2: the examples of the document.
func TestExamplesOfPrint(t *testing.T) {
	for full, want := range map[string]string{"N": "Noise_N_25519_ChaChaPoly_BLAKE2s", "NNpsk0+psk2": "Noise_NNpsk0+psk2_25519_ChaChaPoly_BLAKE2s"} {
		if got, err := naming.Print(full); got != want || err != nil {
			t.Errorf("Print(%q): %q, %v", full, got, err)
		}
	}
	mustNotPrint(t, "Q")
}

// P16.2: each full name that Parse takes between the two ends.
func TestPrint(t *testing.T) {
	for range 2 {
		for full := range taken() {
			mustPrint(t, full)
		}
	}
}

// P16.2: others, and texts with an end of a name within them.
func TestPrintOfOthers(t *testing.T) {
	for _, full := range []string{"", " ", "_", "+", "\x00", "\xff", "xx", "XY", "Xx", "XX ", " XX", "XX\n", "psk0", "fallback", "XX+psk0", "XXpsk0+", "XXpsk0psk1", "XXpsk00", "XXpsk4", "XXpsk1+psk0", "XXpsk0+fallback", "IKfallback", "XXX", "25519"} {
		mustNotPrint(t, full)
	}
	for _, full := range some() {
		for _, text := range []string{front + full, full + back, front + full + back, full + front, back + full, full + back + full, full + back + back, front + front + full, full + "_", "_" + full,
			full + "_25519", full + "_25519_ChaChaPoly", front + full + back + front + full + back, back + front + full} {
			mustNotPrint(t, text)
		}
	}
	mustNotPrint(t, front)
	mustNotPrint(t, back)
	mustNotPrint(t, front+back)
	mustNotPrint(t, "XX"+back+front+"XX")
}

// P16.2: any byte in the place of each one, ahead of each one and in no place.
func TestPrintOfEveryByte(t *testing.T) {
	for _, full := range some() {
		for at := range len(full) + 1 {
			for b := range 256 {
				one := string([]byte{byte(b)})
				mustPrint(t, full[:at]+one+full[at:])
				if at < len(full) {
					mustPrint(t, full[:at]+one+full[at+1:])
				}
			}
			mustPrint(t, full[:at])
			mustPrint(t, full[at:])
		}
	}
}

// P16.2: texts with which the name has MaxName bytes, one more, and very many.
func TestPrintOfLong(t *testing.T) {
	between := limit - len(front+back)
	for _, size := range []int{between - 1, between, between + 1, limit, limit + 1, 65536, 1 << 20} {
		for _, middle := range []string{"X", "1", "a", "+", "+psk0", "\x00", "\xff", back, front} {
			mustNotPrint(t, stretched(size, "XX", middle, "0", ""))
			mustNotPrint(t, stretched(size, "XXpsk0", middle, "0", ""))
			mustNotPrint(t, stretched(size, "", middle, "X", "XX"))
		}
		mustNotPrint(t, stretched(size, "XXpsk", "0", "0", ""))
		mustNotPrint(t, strings.Repeat("X", size))
	}
}

// P16.2: drawn texts, of which many are full names.
func TestPrintOfDrawn(t *testing.T) {
	d := draw(162)
	parts := []string{"X", "N", "1", "XX", "IK", "X1X1", "psk0", "psk1", "psk2", "+", "+psk1", "+psk3", "fallback", "fallback+psk0", "_", front, back, "\x00", "é"}
	for range 50000 {
		full := ""
		for range d.below(5) {
			full += d.of(parts)
		}
		mustPrint(t, full)
	}
}
