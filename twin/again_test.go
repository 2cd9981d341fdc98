package twin_test

import (
	"runtime"
	"slices"
	"sync"
	"testing"

	"pintle/api"
	"pintle/twin"
)

// mustAll asks all calls for what the Session answered, and Traced for these runs.
func (r *role) mustAll(t *testing.T, runs []api.Run) {
	t.Helper()
	r.mustPlay(t)
	r.mustAgree(t)
	got, again, err := twin.Traced(r.setup, r.steps)
	if err != nil || !slices.Equal(again, runs) {
		t.Errorf("Traced of %s: %v, %d runs, not %d", r.setup.Name, err, len(again), len(runs))
	}
	mustAnswer(t, "Traced of "+r.setup.Name, got, r.want)
}

// some are scripts, with their runs.
func some(t *testing.T, seed draw) (all []*role, runs [][]api.Run) {
	t.Helper()
	for i, full := range few() {
		for _, r := range anyhow(t, full, seed+draw(i), 20) {
			all, runs = append(all, r), append(runs, r.mustTrace(t))
		}
	}
	return all, runs
}

// W2: the same call again answers the same, under many schedules.
func TestAgain(t *testing.T) {
	defer runtime.GOMAXPROCS(runtime.GOMAXPROCS(0))
	all, runs := some(t, 70)
	for _, n := range []int{1, 2, 3, 8} {
		runtime.GOMAXPROCS(n)
		for i, r := range all {
			r.mustAll(t, runs[i])
		}
	}
}

// W2: and with other calls at the same time, of the same script and of others.
func TestAtOneTime(t *testing.T) {
	all, runs := some(t, 71)
	var wait sync.WaitGroup
	for i := range 4 * len(all) {
		wait.Go(func() {
			r, of := all[i/2%len(all)], runs[i/2%len(all)] // each twice side by side, out of the same lists
			for _, engine := range engines() {
				got, err := twin.Play(engine, r.setup, r.steps)
				if err != nil || !slices.EqualFunc(got, r.want, alike) {
					t.Errorf("Play of %s on %d: %v", r.setup.Name, engine, err)
				}
			}
			if got, ok := twin.Both(r.setup, r.steps); !ok || !slices.EqualFunc(got, r.want, alike) {
				t.Errorf("Both of %s: %v", r.setup.Name, ok)
			}
			if got, again, err := twin.Traced(r.setup, r.steps); err != nil || !slices.Equal(again, of) || !slices.EqualFunc(got, r.want, alike) {
				t.Errorf("Traced of %s: %v, %d runs, not %d", r.setup.Name, err, len(again), len(of))
			}
		})
	}
	wait.Wait()
}

func alike(a, b api.Answer) bool {
	return a.Err == b.Err && slices.Equal(a.Data, b.Data) && a.Sight == b.Sight
}

// W2: nothing is kept from call to call: a script in between, whatever becomes of it, changes nothing.
func TestNothingIsKept(t *testing.T) {
	all, runs := some(t, 72)
	for i, r := range all {
		other := all[(i+7)%len(all)]
		twin.Play(api.Fast, other.setup, other.steps)
		twin.Both(other.setup, r.steps)
		twin.Traced(r.setup, other.steps)
		twin.Traced(api.Setup{}, r.steps)
		r.mustAll(t, runs[i])
	}
}
