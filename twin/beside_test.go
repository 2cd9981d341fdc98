package twin_test

import (
	"fmt"
	"runtime"
	"slices"
	"strings"
	"sync"
	"sync/atomic"
	"testing"
	"time"

	"pintle/api"
	"pintle/twin"
)

// answering is a function that answers that.
func answering[T any](x T) func() T { return func() T { return x } }

// P22.4: numbers, texts, structs, lists, pointers, functions, interfaces, nothing at all: a's first.
func TestBesideOfTypes(t *testing.T) {
	mustBeside(t, 1, 2)
	mustBeside(t, "keel", "mast")
	mustBeside(t, 1.5, -2.5)
	mustBeside(t, api.Key{1}, api.Key{2})
	mustBeside(t, api.Sight{Turn: 1}, api.Sight{Dead: true})
	mustBeside[error](t, api.ErrKind, api.ErrArg)
	mustBeside[any](t, "keel", 7)
	mustBeside(t, new(int), new(int))
	mustBeside(t, struct{}{}, struct{}{})
	mustBeside(t, make(chan int), make(chan int))
	lists := [2][]int{{1, 2}, {3}}
	if a, b := twin.Beside(answering(lists[0]), answering(lists[1])); !slices.Equal(a, lists[0]) || !slices.Equal(b, lists[1]) {
		t.Errorf("%v, %v", a, b)
	}
	maps := [2]map[string]int{{"keel": 1}, {"mast": 2}}
	if a, b := twin.Beside(answering(maps[0]), answering(maps[1])); a["keel"] != 1 || b["mast"] != 2 {
		t.Errorf("%v, %v", a, b)
	}
	f, g := twin.Beside(answering(answering(5)), answering(answering(6)))
	if f() != 5 || g() != 6 {
		t.Errorf("%d, %d", f(), g())
	}
}

func mustBeside[T comparable](t *testing.T, x, y T) {
	t.Helper()
	if a, b := twin.Beside(answering(x), answering(y)); a != x || b != y {
		t.Errorf("%v, %v, not %v, %v", a, b, x, y)
	}
	if b, a := twin.Beside(answering(y), answering(x)); a != x || b != y {
		t.Errorf("%v, %v, not %v, %v", b, a, y, x)
	}
	var zero T
	if a, b := twin.Beside(nil, answering(y)); a != zero || b != y {
		t.Errorf("%v, %v, not zero, %v", a, b, y)
	}
	if a, b := twin.Beside(answering(x), nil); a != x || b != zero {
		t.Errorf("%v, %v, not %v, zero", a, b, x)
	}
	if a, b := twin.Beside[T](nil, nil); a != zero || b != zero {
		t.Errorf("%v, %v, not zeros", a, b)
	}
}

// P22.4: nil functions of types that are not compared.
func TestBesideNilLists(t *testing.T) {
	if a, b := twin.Beside[[]byte](nil, nil); a != nil || b != nil {
		t.Errorf("%v, %v", a, b)
	}
	if a, b := twin.Beside(nil, answering([]byte("hail"))); a != nil || string(b) != "hail" {
		t.Errorf("%v, %v", a, b)
	}
	if a, b := twin.Beside(answering(api.Answer{Data: []byte("hail")}), nil); string(a.Data) != "hail" || b.Data != nil {
		t.Errorf("%v, %v", a, b)
	}
}

// P22.4: a function that answers a zero T has answered.
func TestBesideZeros(t *testing.T) {
	mustBeside(t, 0, 1)
	mustBeside(t, 1, 0)
	mustBeside(t, 0, 0)
	mustBeside[error](t, nil, api.ErrArg)
	mustBeside[*int](t, nil, nil)
}

// P22.4: both at one time: each waits for the other one to have begun.
func TestBesideAtOneTime(t *testing.T) {
	for n := range 200 {
		ofA, ofB := make(chan int), make(chan int)
		a, b := twin.Beside(
			func() int { ofA <- n; return <-ofB },
			func() int { x := <-ofA; ofB <- -n; return x },
		)
		if a != -n || b != n {
			t.Fatalf("%d, %d", a, b)
		}
	}
	var begun sync.WaitGroup
	begun.Add(2)
	meet := func() int { begun.Done(); begun.Wait(); return 1 }
	if a, b := twin.Beside(meet, meet); a+b != 2 {
		t.Errorf("%d, %d", a, b)
	}
}

// P22.4: what each answers stands in its place, whichever ends first.
func TestBesideWhicheverFirst(t *testing.T) {
	for n := range 200 {
		ended := make(chan struct{})
		early := func() int { defer close(ended); return n }
		late := func() int { <-ended; runtime.Gosched(); return n + 1 }
		if a, b := twin.Beside(early, late); a != n || b != n+1 {
			t.Fatalf("%d, %d", a, b)
		}
		ended = make(chan struct{})
		if b, a := twin.Beside(late, early); a != n || b != n+1 {
			t.Fatalf("%d, %d", b, a)
		}
	}
	slow := func() string { time.Sleep(20 * time.Millisecond); return "slow" }
	mustBeInPlace(t, slow, answering("quick"), "slow", "quick")
	mustBeInPlace(t, answering("quick"), slow, "quick", "slow")
	mustBeInPlace(t, nil, slow, "", "slow")
	mustBeInPlace(t, slow, nil, "slow", "")
}

func mustBeInPlace(t *testing.T, a, b func() string, x, y string) {
	t.Helper()
	if gotA, gotB := twin.Beside(a, b); gotA != x || gotB != y {
		t.Errorf("%q, %q, not %q, %q", gotA, gotB, x, y)
	}
}

// P22.4: each is called once; one function that is handed in as both, twice.
func TestBesideOnce(t *testing.T) {
	for range 300 {
		var calls [2]atomic.Int64
		twin.Beside(
			func() int64 { return calls[0].Add(1) },
			func() int64 { return calls[1].Add(1) },
		)
		if calls[0].Load() != 1 || calls[1].Load() != 1 {
			t.Fatalf("%d, %d calls", calls[0].Load(), calls[1].Load())
		}
		var both atomic.Int64
		one := func() int64 { return both.Add(1) }
		if a, b := twin.Beside(one, one); a+b != 3 || both.Load() != 2 {
			t.Fatalf("%d, %d, %d calls", a, b, both.Load())
		}
	}
}

// goroutine is the number of the one that asks: the second word of its stack as a text.
func goroutine() string {
	buf := make([]byte, 64)
	return strings.Fields(string(buf[:runtime.Stack(buf, false)]))[1]
}

// P22.4: each in a goroutine of its own.
func TestBesideGoroutines(t *testing.T) {
	for range 50 {
		a, b := twin.Beside(goroutine, goroutine)
		if own := goroutine(); a == b || a == own || b == own {
			t.Fatalf("%s, %s, from %s", a, b, own)
		}
	}
}

// settled tells whether no more goroutines are there than so many, as soon as those that are about to end have done so.
func settled(most int) bool {
	for range 2000 {
		if runtime.NumGoroutine() <= most {
			return true
		}
		time.Sleep(time.Millisecond)
	}
	return false
}

// P22.4, W2: all goroutines have ended when a call answers.
func TestAllEnd(t *testing.T) {
	r := whole(t, "NN", 30)[first]
	calls := map[string]func(){
		"Beside":             func() { twin.Beside(answering(1), answering(2)) },
		"Beside of nil ones": func() { twin.Beside[int](nil, nil) },
		"Both":               func() { twin.Both(r.setup, r.steps) },
		"Both, refused":      func() { twin.Both(api.Setup{}, r.steps) },
		"Play":               func() { twin.Play(api.Fast, r.setup, r.steps) },
		"Traced":             func() { twin.Traced(r.setup, r.steps) },
	}
	for what, call := range calls {
		ahead := runtime.NumGoroutine()
		for range 20 {
			call()
		}
		if !settled(ahead) {
			t.Errorf("%s: %d goroutines, %d ahead of it", what, runtime.NumGoroutine(), ahead)
		}
	}
}

// P22.4: neither function is running any more when Beside answers.
func TestBesideWaits(t *testing.T) {
	for range 100 {
		var running atomic.Int64
		busy := func() int {
			running.Add(1)
			defer running.Add(-1)
			for range 10 {
				runtime.Gosched()
			}
			return 1
		}
		twin.Beside(busy, busy)
		twin.Beside(busy, nil)
		twin.Beside(nil, busy)
		if n := running.Load(); n != 0 {
			t.Fatalf("%d are running", n)
		}
	}
}

// P22.4: Beside within Beside, and many at one time.
func TestBesideNested(t *testing.T) {
	var all sync.WaitGroup
	for n := range 50 {
		all.Go(func() {
			pair := func(k int) func() string {
				return func() string {
					a, b := twin.Beside(answering(k), answering(k+1))
					return fmt.Sprint(a, b)
				}
			}
			if a, b := twin.Beside(pair(n), pair(-n)); a != fmt.Sprint(n, n+1) || b != fmt.Sprint(-n, -n+1) {
				t.Errorf("%s, %s", a, b)
			}
		})
	}
	all.Wait()
}

// W2: one answer under every schedule.
func TestBesideSchedules(t *testing.T) {
	defer runtime.GOMAXPROCS(runtime.GOMAXPROCS(0))
	for _, n := range []int{1, 2, 3, 8} {
		runtime.GOMAXPROCS(n)
		for range 500 {
			if a, b := twin.Beside(answering("a"), answering("b")); a != "a" || b != "b" {
				t.Fatalf("%q, %q", a, b)
			}
		}
	}
}
