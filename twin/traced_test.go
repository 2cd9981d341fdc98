package twin_test

import (
	"fmt"
	"slices"
	"testing"

	"pintle/api"
	"pintle/session"
	"pintle/suite"
	"pintle/trace"
	"pintle/twin"
)

// mustTrace asks Traced for what the Session answered, and for the runs that the document fixes.
func (r *role) mustTrace(t *testing.T) []api.Run {
	t.Helper()
	got, runs, err := twin.Traced(r.setup, r.steps)
	if err != nil {
		t.Fatalf("Traced of %s: %v", r.setup.Name, err)
	}
	mustAnswer(t, "Traced of "+r.setup.Name, got, r.want)
	mustRun(t, r.setup.Name, runs, ledgerOf(t, r.setup, r.steps, r.want).runs())
	return runs
}

func mustRun(t *testing.T, what string, got, want []api.Run) {
	t.Helper()
	for i := range min(len(got), len(want)) {
		if got[i] != want[i] {
			t.Fatalf("%s, run %d: %v, not %v", what, i, got[i], want[i])
		}
	}
	if len(got) != len(want) {
		t.Fatalf("%s: %d runs, not %d", what, len(got), len(want))
	}
}

// P22.3, P0.5, S1, S2: of whole sessions of all 38 patterns, and of those with words, of both sides, event by event.
func TestTracedWhole(t *testing.T) {
	inParts(t, append(tabled(), modified()...), func(t *testing.T, i int, full string) {
		for _, r := range whole(t, full, draw(40+i)) {
			r.mustTrace(t)
		}
	})
}

// P22.3, P0.5: and of steps anyhow: what is refused logs nothing, what fails up to where it fails.
func TestTracedAnyhow(t *testing.T) {
	inParts(t, append(few(), modified()...), func(t *testing.T, i int, full string) {
		for seed := range draw(3) {
			for _, r := range anyhow(t, full, 41+83*seed+draw(i), 30) {
				r.mustTrace(t)
			}
		}
	})
}

// P22.3, P0.5: messages of all lengths about the blocks of the stream, the tag and the digest, in the handshake and behind it, the longest ones too.
func TestTracedLengths(t *testing.T) {
	lengths := []int{0, 1, 15, 16, 17, 31, 32, 33, 47, 48, 63, 64, 65, 127, 128, 129, 255, 256, 257, 319, 320, 321, 511, 512, 513, 4096, limit - 96, limit - 32, limit - 16}
	for i, n := range lengths {
		t.Run(fmt.Sprint(n, " bytes"), func(t *testing.T) {
			t.Parallel()
			for _, full := range []string{"NN", "IXpsk2", "X"} {
				both := pair(t, full, draw(42+i))
				for _, r := range both {
					r.setup.Prologue = make([]byte, n)
					r.s, _ = session.New(suite.Fast(nil), r.setup)
				}
				for !both[first].s.Sight().Over {
					turn := both[first].s.Sight().Turn
					if a := both[turn].write(make([]byte, n)); a.Err == nil {
						both[1-turn].read(a.Data)
					} else {
						say(t, both, turn, nil)
					}
				}
				say(t, both, first, make([]byte, n))
				both[second].read(make([]byte, n))
				both[first].mustTrace(t)
				both[second].mustTrace(t)
			}
		})
	}
}

// P22.3, P0.5, P0.7: a message that fails logs its calls up to what failed, that one too; what is too short none; and what is dead none.
func TestTracedFailures(t *testing.T) {
	for _, killer := range killers() {
		both := pair(t, "XX", 43)
		for range killer.place {
			say(t, both, both[first].s.Sight().Turn, []byte("hail"))
		}
		from := both[first].s.Sight().Turn
		right, r := both[from].write([]byte("hail")).Data, both[1-from]
		ahead := r.mustTrace(t)
		if a := r.read(killer.wrong(right)); a.Err != killer.want {
			t.Fatalf("%v, not %v", a.Err, killer.want)
		}
		failed := r.mustTrace(t)
		if same := slices.Equal(ahead, failed); same != (killer.want == api.ErrShort) {
			t.Errorf("message %d, %v: the same trace as ahead of it: %v", killer.place, killer.want, same)
		}
		r.read(right)
		r.write(nil)
		r.rekey(out)
		r.nonce(in, 1)
		r.sight()
		mustRun(t, "dead", r.mustTrace(t), failed)
	}
}

// idle are steps that log nothing at a place of a session: those that are refused there for their turn, their number, their way, their kind, as too long, and those that only ask.
func idle(over, writes bool) []api.Step {
	steps := []api.Step{
		{Kind: sight}, {Kind: 0}, {Kind: -1}, {Kind: 6, Data: []byte("hail")}, {Kind: 1 << 40},
		{Kind: rekey, Way: 0}, {Kind: rekey, Way: 3}, {Kind: nonce, Way: -1, Number: 5},
		{Kind: write, Data: make([]byte, limit)}, {Kind: read, Data: make([]byte, limit+1)},
	}
	switch {
	case over:
		steps = append(steps, api.Step{Kind: read, Data: make([]byte, 15)}, api.Step{Kind: read})
	case writes:
		steps = append(steps, api.Step{Kind: read, Data: make([]byte, 200)}, api.Step{Kind: rekey, Way: out}, api.Step{Kind: nonce, Way: in})
	default:
		steps = append(steps, api.Step{Kind: write, Data: make([]byte, 200)}, api.Step{Kind: rekey, Way: in}, api.Step{Kind: nonce, Way: out})
	}
	return steps
}

// P22.3, P0.6: what is refused for its turn, its number, its kind, or as too long logs nothing: one trace with it and without it.
func TestTracedRefused(t *testing.T) {
	inParts(t, few(), func(t *testing.T, i int, full string) {
		for side, r := range whole(t, full, 44) {
			bare := r.mustTrace(t)
			full := roleOf(t, suite.Fast(nil), r.setup)
			for n, step := range r.steps {
				x := full.s.Sight()
				for _, more := range idle(x.Over, x.Turn == side) {
					if a := full.do(more); a.Err == nil && more.Kind != sight {
						t.Fatalf("%s, step %d: %+v is not refused", r.setup.Name, n, more.Kind)
					}
				}
				full.do(step)
			}
			mustRun(t, "with what is refused", full.mustTrace(t), bare)
		}
	})
}

// P22.3, P0.6: a Write without a draw logs nothing, nor does a message at the last number, nor a way that is not there.
func TestTracedWithoutDrawsAndNumbers(t *testing.T) {
	u := setups("NN", 45)
	u[first].Draws = nil
	r := roleOf(t, suite.Fast(nil), u[first])
	bare := r.mustTrace(t)
	if a := r.write([]byte("hail")); a.Err != api.ErrDraw {
		t.Fatal(a.Err)
	}
	mustRun(t, "without a draw", r.mustTrace(t), bare)
	both := pair(t, "X", 45)
	shakeHands(t, both, nil)
	traces := [2][]api.Run{both[first].mustTrace(t), both[second].mustTrace(t)}
	both[first].nonce(out, last)
	both[second].nonce(in, last)
	refused := []api.Answer{
		both[first].write(nil), both[second].read(make([]byte, 30)), // ErrNonce
		both[first].read(make([]byte, 30)), both[second].write(nil), both[first].rekey(in), both[second].rekey(out), // ErrTurn
	}
	for i, a := range refused {
		if want := [...]error{api.ErrNonce, api.ErrTurn}[min(i/2, 1)]; a.Err != want {
			t.Fatalf("%d: %v, not %v", i, a.Err, want)
		}
	}
	for side, r := range both {
		mustRun(t, "at the last number", r.mustTrace(t), traces[side])
	}
}

// P22.3: without a step there is what New logs; of a pattern that begins with nothing but its name and the prologue, that alone.
func TestTracedFromNew(t *testing.T) {
	for _, full := range append(few(), "KN", "NK") {
		for _, u := range setups(full, 46) {
			for _, steps := range [][]api.Step{nil, {}} {
				got, runs, err := twin.Traced(u, steps)
				if err != nil || len(got) != 0 || len(runs) == 0 {
					t.Fatalf("%s: %d answers, %d runs, %v", full, len(got), len(runs), err)
				}
				mustRun(t, full, runs, begun(t, u).runs())
			}
		}
	}
	by := []api.Run{ // by hand: no Hash of a name of 32 bytes, and Hash of the hash and no prologue; no key is needed by who sends under N
		{Event: api.Event{Kind: 1, Value: 0}, Times: 4},
		{Event: api.Event{Kind: 1, Value: 1}, Times: 1}, // there is a piece
		{Event: api.Event{Kind: 2, Value: 0}, Times: 1}, // the first one
		{Event: api.Event{Kind: 1, Value: 1}, Times: 1}, // it has bytes
		{Event: api.Event{Kind: 1, Value: 0}, Times: 1}, // no block is whole
		{Event: api.Event{Kind: 2, Value: 0}, Times: 1},
		{Event: api.Event{Kind: 2, Value: 32}, Times: 1},
		{Event: api.Event{Kind: 1, Value: 0}, Times: 1}, // no more bytes
		{Event: api.Event{Kind: 1, Value: 1}, Times: 1}, // a piece
		{Event: api.Event{Kind: 2, Value: 1}, Times: 1}, // the second one
		{Event: api.Event{Kind: 1, Value: 0}, Times: 2}, // no bytes; no further piece
		{Event: api.Event{Kind: 2, Value: 32}, Times: 1},
		{Event: api.Event{Kind: 3, Value: 31}, Times: 1},
	}
	twice := slices.Concat(by[:9], []api.Run{ // the second time with the responder's key as the second piece
		{Event: api.Event{Kind: 2, Value: 1}, Times: 1},
		{Event: api.Event{Kind: 1, Value: 1}, Times: 1},
		{Event: api.Event{Kind: 1, Value: 0}, Times: 1},
		{Event: api.Event{Kind: 2, Value: 32}, Times: 2},
		{Event: api.Event{Kind: 1, Value: 0}, Times: 2},
		{Event: api.Event{Kind: 2, Value: 64}, Times: 1},
		{Event: api.Event{Kind: 3, Value: 31}, Times: 1},
	})
	_, runs, err := twin.Traced(api.Setup{Name: nameOf("N"), Initiator: true, HasRemote: true}, nil)
	if err != nil {
		t.Fatal(err)
	}
	mustRun(t, "by hand", runs, slices.Concat(by, twice))
}

// P22.3: the runs are those that a new Recorder of a Session tells, and no two side by side are alike.
func TestTracedIsRuns(t *testing.T) {
	for i, full := range few() {
		for _, r := range anyhow(t, full, draw(47+i), 25) {
			own := trace.New()
			of := roleOf(t, suite.Fast(own), r.setup)
			for _, step := range r.steps {
				of.do(step)
			}
			runs := r.mustTrace(t)
			mustRun(t, full, runs, own.Runs())
			for n, run := range runs {
				if run.Times < 1 || n > 0 && runs[n-1].Event == run.Event {
					t.Fatalf("%s, run %d: %v", full, n, run)
				}
			}
		}
	}
}

// P22.3, P22.1: the answers are those of Play, on either engine.
func TestTracedAnswers(t *testing.T) {
	for i, full := range few() {
		for _, r := range anyhow(t, full, draw(48+i), 25) {
			got, _, err := twin.Traced(r.setup, r.steps)
			if err != nil {
				t.Fatal(err)
			}
			for _, engine := range engines() {
				want, err := twin.Play(engine, r.setup, r.steps)
				if err != nil {
					t.Fatal(err)
				}
				mustAnswer(t, full, got, want)
			}
		}
	}
}

// P22.3, W3: a setup that is refused: its error and nothing else.
func TestTracedRefusedSetup(t *testing.T) {
	for i, row := range refused() {
		for _, steps := range scripts() {
			if got, runs, err := twin.Traced(row.u, steps); err != row.want || len(got) != 0 || len(runs) != 0 {
				t.Errorf("setup %d: %d answers, %d runs, %v, not %v", i, len(got), len(runs), err, row.want)
			}
		}
	}
}
