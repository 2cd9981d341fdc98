package naming_test

import (
	"slices"
	"strings"
	"testing"

	"pintle/api"
	"pintle/naming"
	"pintle/pattern"
)

const (
	e, s, ee, es, se, ss, psk = api.TokenE, api.TokenS, api.TokenEE, api.TokenES, api.TokenSE, api.TokenSS, api.TokenPSK

	first, second = api.Initiator, api.Responder
)

// P16.1: the examples of the document that are taken, written out.
func TestExamplesTaken(t *testing.T) {
	mustTake(t, "Noise_XX_25519_ChaChaPoly_BLAKE2s", api.Pattern{Name: "XX", Lines: []api.Line{
		{From: first, Tokens: []int{e}}, {From: second, Tokens: []int{e, ee, s, es}}, {From: first, Tokens: []int{s, se}}}})
	mustTake(t, "Noise_IKpsk2_25519_ChaChaPoly_BLAKE2s", api.Pattern{Name: "IKpsk2", Before: [2][]int{nil, {s}}, Lines: []api.Line{
		{From: first, Tokens: []int{e, es, s, ss}}, {From: second, Tokens: []int{e, ee, se, psk}}}})
	mustTake(t, "Noise_XXfallback+psk0_25519_ChaChaPoly_BLAKE2s", api.Pattern{Name: "XXfallback+psk0", Before: [2][]int{{e}, nil}, Lines: []api.Line{
		{From: second, Tokens: []int{psk, e, ee, s, es}}, {From: first, Tokens: []int{s, se}}}})
}

// P16.1: the examples of the document that are refused.
func TestExamplesRefused(t *testing.T) {
	for _, name := range []string{"", "Noise_XX", "Noise_xx_25519_ChaChaPoly_BLAKE2s", "Noise_XX_25519_ChaChaPoly_BLAKE2b", "noise_XX_25519_ChaChaPoly_BLAKE2s"} {
		mustRefuse(t, name)
	}
	for _, full := range []string{"XXpsk0psk1", "XX+psk0", "XXpsk0+", "XXpsk1+psk0", "XXpsk00", "XXpsk4", "XXpsk0+fallback", "XY", "psk0"} {
		mustRefuse(t, front+full+back)
	}
}

// P16.1: without a word each of the 38 patterns of the table, as it is.
func TestPlain(t *testing.T) {
	count := 0
	for want := range pattern.All() {
		count++
		mustTake(t, front+want.Name+back, want)
		if len(want.Lines) != bases()[want.Name] {
			t.Errorf("%s has %d messages", want.Name, len(want.Lines))
		}
	}
	if count != 38 || len(bases()) != 38 {
		t.Errorf("%d patterns, %d names", count, len(bases()))
	}
}

// P16.1: each of them with each psk word, with several ones, with fallback, with fallback and psk words: all that there are.
func TestWords(t *testing.T) {
	if len(taken()) != 776 {
		t.Fatalf("%d full names", len(taken()))
	}
	words := map[string]int{}
	for full, p := range taken() {
		mustTake(t, front+full+back, modified(t, p))
		kind := strings.Repeat("psk ", len(p.words))
		if slices.Contains(p.words, "fallback") {
			kind = "fallback " + strings.Repeat("psk ", len(p.words)-1)
		}
		words[kind]++
	}
	for kind, least := range map[string]int{"": 38, "psk ": 139, "psk psk ": 100, "psk psk psk psk psk ": 5, "fallback ": 28, "fallback psk ": 60, "fallback psk psk psk psk ": 4} {
		if words[kind] < least {
			t.Errorf("%q: %d", kind, words[kind])
		}
	}
}

// P16.1: every list of words of a small choice, on each of some patterns: just those that rise are taken.
func TestListsOfWords(t *testing.T) {
	choice := []string{"psk0", "psk1", "psk2", "psk3", "psk4", "psk5", "fallback"}
	for _, base := range []string{"N", "NN", "IK", "XX", "X1X1", "Q"} {
		lists := [][]string{nil}
		count := 0
		for range 4 {
			var next [][]string
			for _, list := range lists {
				if mustParse(t, front+parted{base, list}.full()+back) {
					count++
				}
				for _, word := range choice {
					next = append(next, append(slices.Clone(list), word))
				}
			}
			lists = next
		}
		if want := map[string]int{"N": 4, "NN": 12, "IK": 8, "XX": 22, "X1X1": 37, "Q": 0}[base]; count != want {
			t.Errorf("%s: %d are taken", base, count)
		}
	}
}

// W2: the same answer each time, whatever was asked between.
func TestAlike(t *testing.T) {
	for range 2 {
		for _, full := range some() {
			mustParse(t, front+full+back)
			mustParse(t, full)
			mustParse(t, front+full+back)
		}
	}
	if _, err := naming.Print("XX"); err != nil {
		t.Error(err)
	}
	mustParse(t, front+"XX"+back)
}
