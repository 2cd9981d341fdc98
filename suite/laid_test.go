package suite

import (
	"reflect"
	"testing"

	"pintle/slow"
	"pintle/trace"
)

// code is where a function's code stands: the answers of two engines are alike, so that they alone do not tell which one was asked.
func code(function any) uintptr { return reflect.ValueOf(function).Pointer() }

// codes are those of all functions that are laid in the fields of a Suite, by the names of the fields.
func codes(s Suite) map[string]uintptr {
	all := map[string]uintptr{}
	v := reflect.ValueOf(s)
	for i := range v.NumField() {
		if v.Field(i).Kind() == reflect.Func {
			all[v.Type().Field(i).Name] = v.Field(i).Pointer()
		}
	}
	return all
}

// P10.2: the functions of slow as they are.
func TestPlainIsSlow(t *testing.T) {
	for _, s := range []Suite{Plain(), (Suite{}).laid()} {
		if code(s.shared) != code(slow.Shared) || code(s.public) != code(slow.Public) || code(s.stream) != code(slow.XOR) || code(s.tag) != code(slow.Tag) {
			t.Error("a function of Plain is not slow's")
		}
	}
}

// P10.1: Fast is one engine, with a Recorder and without, and none of its functions is Plain's.
func TestFastIsNotPlain(t *testing.T) {
	plain, with, without := codes(Plain()), codes(Fast(trace.New())), codes(Fast(nil))
	if len(plain) != 6 || len(with) != 6 || len(without) != 6 {
		t.Fatalf("%d, %d and %d functions are laid", len(plain), len(with), len(without))
	}
	for name, at := range plain {
		if at == 0 || with[name] == 0 || with[name] == at || with[name] != without[name] {
			t.Errorf("%s: a function of one engine is laid in the other, or none", name)
		}
	}
}

// The zero Suite keeps nothing: it finds Plain's functions when it is asked.
func TestZeroIsPlain(t *testing.T) {
	zero := codes((Suite{}).laid())
	for name, at := range codes(Plain()) {
		if zero[name] != at {
			t.Errorf("%s of the zero Suite is not Plain's", name)
		}
	}
	if n := len(codes(Suite{})); n != 6 || !reflect.ValueOf(Suite{}).IsZero() {
		t.Errorf("the zero Suite has %d functions to be laid", n)
	}
}
