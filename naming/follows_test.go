package naming_test

import (
	"testing"

	"pintle/api"
	"pintle/naming"
	"pintle/pattern"
)

// mustReturn goes there and back: a name, its pattern, the name again, a pattern of that full name.
func mustReturn(t *testing.T, full string) {
	t.Helper()
	name := front + full + back
	p, err := naming.Parse(name)
	if err != nil || p.Name != full {
		t.Fatalf("Parse(%q): its Name is %q, %v", name, p.Name, err)
	}
	again, err := naming.Print(p.Name)
	if err != nil || again != name {
		t.Fatalf("Print(%q): %q, %v", p.Name, again, err)
	}
	q, err := naming.Parse(again)
	if err != nil || !same(p, q) || q.Name != full {
		t.Fatalf("Parse(%q) once more: %v, %v, not %v", again, q, err, p)
	}
}

// P16.3: the Name of what Parse answers is the full name in it, and Print of that is the name again.
func TestThereAndBack(t *testing.T) {
	for _, full := range fulls() {
		mustReturn(t, full)
	}
}

// P16.3: two unlike names that Parse takes have unlike full names, among all that are near to one that is taken too.
func TestUnlike(t *testing.T) {
	names := map[string]string{}
	ask := func(name string) {
		p, err := naming.Parse(name)
		if err != nil {
			return
		}
		if other, ok := names[p.Name]; ok && other != name {
			t.Fatalf("%q and %q: %q", other, name, p.Name)
		}
		names[p.Name] = name
	}
	signs := []byte("XNKI10234psk+fallb_ \x00Z")
	for _, full := range fulls() {
		name := front + full + back
		ask(name)
		for at := range len(name) {
			ask(name[:at] + name[at+1:])
			ask(name[:at+1] + name[at:])
			for _, sign := range signs {
				ask(name[:at] + string(sign) + name[at:])
				ask(name[:at] + string(sign) + name[at+1:])
			}
		}
	}
	if len(names) != len(taken()) {
		t.Errorf("%d full names, not %d", len(names), len(taken()))
	}
	for full, name := range names {
		if name != front+full+back {
			t.Errorf("%q has the full name %q", name, full)
		}
	}
}

// P16.4: what Parse answers is valid, and has a text.
func TestValid(t *testing.T) {
	for _, full := range fulls() {
		p, err := naming.Parse(front + full + back)
		if err != nil {
			t.Fatalf("%q: %v", full, err)
		}
		if err := pattern.Check(p); err != nil {
			t.Errorf("%q: %v", full, err)
		}
		text, err := pattern.Print(p)
		if err != nil {
			t.Errorf("%q has no text: %v", full, err)
		}
		if q, err := pattern.Parse(text); err != nil || !same(p, q) {
			t.Errorf("%q: %v, %v, not %v", full, q, err, p)
		}
	}
}

// Errors: what is refused is the variable of package api itself, also where Modify has another one.
func TestOneError(t *testing.T) {
	for _, full := range []string{"Q", "", "XXpsk9", "IKfallback", "XXpsk0+fallback", "XX+"} {
		if _, err := naming.Parse(front + full + back); err != api.ErrName {
			t.Errorf("Parse: %q: %v", full, err)
		}
		if _, err := naming.Print(full); err != api.ErrName {
			t.Errorf("Print: %q: %v", full, err)
		}
	}
}
