package twin_test

import (
	"bytes"
	"fmt"
	"math"
	"testing"

	"pintle/api"
	"pintle/suite"
	"pintle/twin"
)

// refused are setups that a Session's New refuses, with its errors.
func refused() []struct {
	u    api.Setup
	want error
} {
	kk, back := setups("KK", 1)[first], setups("XXfallback", 1)
	noStatic, noRemote, noFormer, noEphemeral := kk, kk, back[first], back[second]
	noStatic.HasStatic, noRemote.HasRemote, noFormer.HasFormer, noEphemeral.HasEphemeral = false, false, false, false
	fewer, more, spare := setups("NNpsk0+psk2", 1)[second], setups("Npsk0", 1)[first], setups("NN", 1)[first]
	fewer.Psks, more.Psks, spare.Psks = fewer.Psks[:1], append(more.Psks, api.Key{}), []api.Key{{}}
	return []struct {
		u    api.Setup
		want error
	}{
		{api.Setup{}, api.ErrName},
		{api.Setup{Name: "?"}, api.ErrName},
		{api.Setup{Name: "NN"}, api.ErrName},
		{api.Setup{Name: nameOf("NN") + " "}, api.ErrName},
		{api.Setup{Name: nameOf("NNpsk9")}, api.ErrName},
		{api.Setup{Name: nameOf("KK") + "\xff", Psks: make([]api.Key, 3)}, api.ErrName}, // and keys that lack
		{api.Setup{Name: string(make([]byte, 1<<16))}, api.ErrName},
		{api.Setup{Name: nameOf("KK")}, api.ErrKey},
		{noStatic, api.ErrKey},
		{noRemote, api.ErrKey},
		{noFormer, api.ErrKey},
		{noEphemeral, api.ErrKey},
		{fewer, api.ErrKey},
		{more, api.ErrKey},
		{spare, api.ErrKey},
	}
}

// scripts are steps of which nothing hangs on how many there are, or which.
func scripts() [][]api.Step {
	return [][]api.Step{nil, {}, {{Kind: write}}, {{Kind: 9}, {Kind: sight}, {Kind: read, Data: []byte("hail")}}}
}

// P22.1: ErrArg for every number of no engine, whether New takes the setup or not.
func TestNoEngine(t *testing.T) {
	of := []api.Setup{setups("NN", 1)[first], setups("X", 1)[second]}
	for _, row := range refused() {
		of = append(of, row.u)
	}
	for _, engine := range []int{0, 3, -1, -2, 4, 9, 255, 256, 257, 258, 1 << 32, 1<<32 + 1, 1<<32 + 2, math.MaxInt, math.MinInt, math.MinInt + 1, math.MinInt + 2} {
		for i, u := range of {
			for _, steps := range scripts() {
				if got, err := twin.Play(engine, u, steps); err != api.ErrArg || len(got) != 0 {
					t.Fatalf("Play(%d) of setup %d: %d answers, %v", engine, i, len(got), err)
				}
			}
		}
	}
}

// P22.1: the errors of New, and no answers beside them, of any steps.
func TestNewRefuses(t *testing.T) {
	for i, row := range refused() {
		for _, engine := range engines() {
			for _, steps := range scripts() {
				if got, err := twin.Play(engine, row.u, steps); err != row.want || len(got) != 0 {
					t.Fatalf("Play(%d) of setup %d: %d answers, %v, not %v", engine, i, len(got), err, row.want)
				}
			}
		}
	}
}

// P22.1, W5: no steps, as a nil list and as an empty one: no answers, and no error.
func TestNoSteps(t *testing.T) {
	for _, full := range few() {
		for _, u := range setups(full, 2) {
			for _, engine := range engines() {
				for _, steps := range [][]api.Step{nil, {}, make([]api.Step, 0, 3)} {
					if got, err := twin.Play(engine, u, steps); err != nil || len(got) != 0 {
						t.Fatalf("%s: %d answers, %v", full, len(got), err)
					}
				}
			}
		}
	}
}

// P22.1, W5: a nil list is as an empty one in all that is handed in.
func TestNilLists(t *testing.T) {
	u := api.Setup{Name: nameOf("NN"), Initiator: true}
	empty := u
	empty.Prologue, empty.Psks, empty.Draws = []byte{}, []api.Key{}, []api.Key{}
	kinds := []int{write, read, rekey, nonce, sight, 0}
	for _, engine := range engines() {
		var bare, filled []api.Step
		for _, kind := range kinds {
			bare, filled = append(bare, api.Step{Kind: kind}), append(filled, api.Step{Kind: kind, Data: []byte{}})
		}
		got, err := twin.Play(engine, u, bare)
		want, err2 := twin.Play(engine, empty, filled)
		if err != nil || err2 != nil {
			t.Fatal(err, err2)
		}
		mustAnswer(t, "empty lists", got, want)
		errs := []error{api.ErrDraw, api.ErrTurn, api.ErrArg, api.ErrArg, nil, api.ErrKind}
		for i, a := range got {
			if a.Err != errs[i] {
				t.Errorf("step %d: %v, not %v", i, a.Err, errs[i])
			}
		}
	}
}

// P22.1, P0.1: each kind of step, in the handshake and behind it, of all 38 patterns and of those with words, on both engines.
func TestWholeScripts(t *testing.T) {
	inParts(t, append(tabled(), modified()...), func(t *testing.T, i int, full string) {
		for side, r := range whole(t, full, draw(3+i)) {
			for step, a := range r.want {
				if a.Err != nil {
					t.Fatalf("%s, side %d, step %d: %v", full, side, step, a.Err)
				}
			}
			r.mustPlay(t)
		}
	})
}

// P22.1, P0.1: and steps of every kind anyhow, right ones and wrong ones.
func TestDrawnScripts(t *testing.T) {
	inParts(t, append(few(), modified()...), func(t *testing.T, i int, full string) {
		for seed := range draw(3) {
			for _, r := range anyhow(t, full, 4+97*seed+draw(i), 30) {
				r.mustPlay(t)
			}
		}
	})
}

// The drawn scripts come by every error that a step may have (but ErrDraw and ErrStatic, which have tests of their own): else they would ask for little.
func TestDrawnScriptsReachAll(t *testing.T) {
	met := map[error]int{}
	for i, full := range append(few(), modified()...) {
		for seed := range draw(3) {
			for _, r := range anyhow(t, full, 4+97*seed+draw(i), 30) {
				for _, a := range r.want {
					met[a.Err]++
				}
			}
		}
	}
	for _, err := range []error{nil, api.ErrKind, api.ErrDead, api.ErrTurn, api.ErrLong, api.ErrShort, api.ErrNonce, api.ErrAuth, api.ErrArg, api.ErrOver} {
		if met[err] == 0 {
			t.Errorf("none has %v", err)
		}
	}
}

// P22.1: Write and Read tell the message and the payload, under way.
func TestWriteAndReadTell(t *testing.T) {
	u := setups("NN", 5)
	u[first].Draws, u[second].Draws = []api.Key{{1}}, []api.Key{{2}}
	public := publicOf(api.Key{1})
	message := append(bytes.Clone(public[:]), "hail"...)
	for _, engine := range engines() {
		sent, err := twin.Play(engine, u[first], []api.Step{{Kind: write, Data: []byte("hail")}, {Kind: write, Data: []byte("hail")}})
		if err != nil || len(sent) != 2 {
			t.Fatal(sent, err)
		}
		mustBe(t, "Write", sent[0], api.Answer{Data: message})
		mustBe(t, "Write out of turn", sent[1], api.Answer{Err: api.ErrTurn})
		got, err := twin.Play(engine, u[second], []api.Step{{Kind: read, Data: message}, {Kind: read, Data: message}})
		if err != nil || len(got) != 2 {
			t.Fatal(got, err)
		}
		mustBe(t, "Read", got[0], api.Answer{Data: []byte("hail")})
		mustBe(t, "Read out of turn", got[1], api.Answer{Err: api.ErrTurn})
	}
}

// sightsOf are the Sights of a script that asks for one behind each of these steps.
func sightsOf(t *testing.T, engine int, u api.Setup, steps ...api.Step) []api.Sight {
	t.Helper()
	asked := []api.Step{{Kind: sight}}
	for _, step := range steps {
		asked = append(asked, step, api.Step{Kind: sight})
	}
	got, err := twin.Play(engine, u, asked)
	if err != nil || len(got) != len(asked) {
		t.Fatal(len(got), err)
	}
	var sights []api.Sight
	for i := 0; i < len(got); i += 2 {
		if got[i].Err != nil || got[i].Data != nil {
			t.Fatalf("a Sight with %s", shown(got[i]))
		}
		sights = append(sights, got[i].Sight)
	}
	return sights
}

// P22.1: Sight tells the Sight of that place, which Rekey leaves, and SetNonce changes of its way alone, to the number that it is handed.
func TestSightRekeyNonceTell(t *testing.T) {
	both := pair(t, "XX", 6)
	shakeHands(t, both, nil)
	for side, r := range both {
		for _, engine := range engines() {
			steps := append(r.steps, api.Step{Kind: nonce, Way: out, Number: 7}, api.Step{Kind: nonce, Way: in, Number: last}, api.Step{Kind: rekey, Way: out}, api.Step{Kind: rekey, Way: in})
			sights := sightsOf(t, engine, r.setup, steps...)
			begun := sights[0]
			if begun.Over || begun.Dead || begun.HasRemote || begun.Turn != first || begun.Out != 0 || begun.In != 0 || sights[1].Turn != second {
				t.Fatalf("side %d: %+v, %+v", side, begun, sights[1])
			}
			end := sights[3]
			if !end.Over || end.Turn != 0 || !end.HasRemote || end.Remote != publicOf(both[1-side].setup.Static) || end != r.s.Sight() {
				t.Fatalf("side %d: %+v", side, end)
			}
			end.Out = 7
			if sights[4] != end {
				t.Fatalf("side %d: %+v, not %+v", side, sights[4], end)
			}
			end.In = last
			for _, x := range sights[5:] {
				if x != end {
					t.Fatalf("side %d: %+v, not %+v", side, x, end)
				}
			}
		}
	}
}

// P22.1: Rekey and SetNonce do it to the way that they are handed: what is written behind them is read by who does the same to the other way, and by nobody else.
func TestWaysAreThoseOfTheStep(t *testing.T) {
	inParts(t, []string{"NN", "IK", "XX", "KKpsk1", "N", "X"}, func(t *testing.T, i int, full string) {
		for _, step := range []api.Step{{Kind: rekey}, {Kind: nonce, Number: 5}} {
			for _, from := range senders(full) {
				for _, way := range []int{out, in} {
					both := pair(t, full, 7)
					shakeHands(t, both, nil)
					step.Way = out
					both[from].do(step)
					step.Way = way
					done := both[1-from].do(step)
					got := both[1-from].read(both[from].write([]byte("hail")).Data)
					if want := way == in; (got.Err == nil) != want || done.Err != nil && !isOneWay(full) {
						t.Fatalf("%s, way %d: %v, %v", full, way, done.Err, got.Err)
					}
					both[first].mustPlay(t)
					both[second].mustPlay(t)
				}
			}
		}
	})
}

// neither are numbers of no way.
func neither() []int {
	return []int{0, 3, -1, -2, 4, 257, 258, 1<<32 + 1, math.MaxInt, math.MinInt, math.MinInt + 1}
}

// P22.1, P0.6: what is refused of each kind, under way and behind it, has its error and nothing else, and changes nothing.
func TestRefusedSteps(t *testing.T) {
	for _, full := range []string{"NN", "XX", "X"} {
		both := pair(t, full, 8)
		refuse := func(r *role, want error, step api.Step) {
			t.Helper()
			if a := r.do(step); a.Err != want {
				t.Fatalf("%s, %+v: %v, not %v", full, step, a.Err, want)
			}
			r.sight()
		}
		ways := func(want error, of ...int) {
			t.Helper()
			for _, r := range both {
				for _, way := range of {
					refuse(r, want, api.Step{Kind: rekey, Way: way})
					refuse(r, want, api.Step{Kind: nonce, Way: way, Number: 3})
				}
			}
		}
		for !both[first].s.Sight().Over {
			from := both[first].s.Sight().Turn
			ways(api.ErrArg, neither()...)
			ways(api.ErrOver, out, in)
			refuse(both[1-from], api.ErrTurn, api.Step{Kind: write, Data: []byte("hail")})
			refuse(both[from], api.ErrTurn, api.Step{Kind: read, Data: []byte("hail")})
			refuse(both[from], api.ErrLong, api.Step{Kind: write, Data: make([]byte, limit)})
			refuse(both[1-from], api.ErrLong, api.Step{Kind: read, Data: make([]byte, limit+1)})
			say(t, both, from, []byte("hail"))
		}
		ways(api.ErrArg, neither()...)
		refuse(both[first], api.ErrLong, api.Step{Kind: write, Data: make([]byte, limit-15)})
		refuse(both[second], api.ErrLong, api.Step{Kind: read, Data: make([]byte, limit+1)})
		refuse(both[second], api.ErrShort, api.Step{Kind: read, Data: make([]byte, 15)})
		refuse(both[second], api.ErrAuth, api.Step{Kind: read, Data: make([]byte, 16)})
		if full == "X" {
			refuse(both[second], api.ErrTurn, api.Step{Kind: write})
			refuse(both[first], api.ErrTurn, api.Step{Kind: read, Data: make([]byte, 40)})
			refuse(both[first], api.ErrTurn, api.Step{Kind: rekey, Way: in})
			refuse(both[second], api.ErrTurn, api.Step{Kind: nonce, Way: out})
		}
		both[first].nonce(out, last)
		both[second].nonce(in, last)
		refuse(both[first], api.ErrNonce, api.Step{Kind: write})
		refuse(both[second], api.ErrNonce, api.Step{Kind: read, Data: make([]byte, 40)})
		both[first].nonce(out, last-1)
		both[second].nonce(in, last-1)
		say(t, both, first, make([]byte, limit-16))
		both[first].mustPlay(t)
		both[second].mustPlay(t)
	}
}

// P22.1: ErrDraw where no draw is left, and the draws are those of the setup, in their order.
func TestDrawsOfTheSetup(t *testing.T) {
	for _, draws := range [][]api.Key{nil, {}, {{1}}, {{2}, {1}}} {
		u := setups("NN", 9)[first]
		u.Draws = draws
		for _, engine := range engines() {
			got, err := twin.Play(engine, u, []api.Step{{Kind: write}, {Kind: write}})
			if err != nil || len(got) != 2 {
				t.Fatal(got, err)
			}
			want, again := api.Answer{Err: api.ErrDraw}, api.Answer{Err: api.ErrDraw}
			if len(draws) > 0 {
				public := publicOf(draws[0])
				want, again = api.Answer{Data: public[:]}, api.Answer{Err: api.ErrTurn}
			}
			mustBe(t, "Write", got[0], want)
			mustBe(t, "Write once more", got[1], again)
		}
	}
}

// killers are messages that end a handshake of the pattern XX, by the place of the message, with their errors: made of the right one.
func killers() []struct {
	place int
	wrong func(right []byte) []byte
	want  error
} {
	turned := func(at int) func([]byte) []byte {
		return func(right []byte) []byte {
			wrong := bytes.Clone(right)
			wrong[(at+len(wrong))%len(wrong)] ^= 4
			return wrong
		}
	}
	return []struct {
		place int
		wrong func(right []byte) []byte
		want  error
	}{
		{0, func(right []byte) []byte { return right[:31] }, api.ErrShort},
		{0, func([]byte) []byte { return nil }, api.ErrShort},
		{1, func([]byte) []byte { return make([]byte, 95) }, api.ErrShort},
		{1, turned(40), api.ErrStatic},
		{1, turned(-1), api.ErrAuth},
		{2, func([]byte) []byte { return make([]byte, 63) }, api.ErrShort},
		{2, turned(0), api.ErrStatic},
		{2, turned(48), api.ErrAuth},
	}
}

// P22.1, P0.7: of a Session that is dead each step has ErrDead, but Sight, which tells it, and what is no kind.
func TestDeadSteps(t *testing.T) {
	for _, killer := range killers() {
		both := pair(t, "XX", 10)
		for range killer.place {
			say(t, both, both[first].s.Sight().Turn, []byte("hail"))
		}
		from := both[first].s.Sight().Turn
		right, r := both[from].write([]byte("hail")).Data, both[1-from]
		ahead := r.sight()
		if a := r.read(killer.wrong(right)); a.Err != killer.want {
			t.Fatalf("message %d: %v, not %v", killer.place, a.Err, killer.want)
		}
		for range 2 {
			r.read(right)
			r.write(nil)
			r.write(make([]byte, limit+1))
			for _, way := range append(neither(), out, in) {
				r.rekey(way)
				r.nonce(way, 1)
			}
		}
		for _, a := range r.want[len(r.want)-20:] {
			if a.Err != api.ErrDead {
				t.Fatalf("%v", a.Err)
			}
		}
		if x := r.sight(); !x.Dead || x.Hash != ahead.Hash || x.Turn != ahead.Turn {
			t.Fatalf("%+v", x)
		}
		r.do(api.Step{Kind: 6})
		r.mustPlay(t)
	}
}

// noKinds are numbers of no kind.
func noKinds() []int {
	all := []int{0, -1, 6, 7, 9, -2, -5, 255, 256, math.MaxInt, math.MaxInt - 1, math.MinInt, math.MinInt + 1, math.MinInt + 5}
	for kind := write; kind <= sight; kind++ { // that would be kinds, if fewer digits counted
		all = append(all, kind+1<<8, kind+1<<16, kind+1<<32, kind-1<<8, -kind)
	}
	return all
}

// P22.1: what is no kind has ErrKind and nothing else, whatever its fields are, and nothing happens: the others answer as if it were not there.
func TestNoKinds(t *testing.T) {
	d := draw(11)
	for _, full := range []string{"NN", "XXpsk3", "X"} {
		for side, r := range whole(t, full, 11) {
			for _, engine := range engines() {
				var steps []api.Step
				var want []api.Answer
				for i, step := range append(r.steps, api.Step{Kind: sight}) {
					for _, kind := range noKinds() {
						steps = append(steps, api.Step{Kind: kind, Data: d.bytes(d.below(50)), Way: d.below(3), Number: uint64(d.below(9))})
						want = append(want, api.Answer{Err: api.ErrKind})
					}
					steps = append(steps, step)
					want = append(want, append(r.want, api.Answer{Sight: r.s.Sight()})[i])
				}
				got, err := twin.Play(engine, r.setup, steps)
				if err != nil {
					t.Fatal(err)
				}
				mustAnswer(t, fmt.Sprint(full, ", side ", side), got, want)
			}
		}
	}
}

// P22.1: fields that a kind does not have are not looked at.
func TestOtherFields(t *testing.T) {
	d := draw(12)
	for _, full := range []string{"XX", "Npsk0"} {
		for _, r := range append(pairOf(whole(t, full, 12)), pairOf(anyhow(t, full, 12, 20))...) {
			for i := range r.steps {
				step := &r.steps[i]
				if step.Kind != write && step.Kind != read {
					step.Data = d.bytes(d.below(70))
				}
				if step.Kind != rekey && step.Kind != nonce {
					step.Way = d.below(5) - 1
				}
				if step.Kind != nonce {
					step.Number = uint64(d.below(5)) - 1
				}
			}
			r.mustPlay(t)
		}
	}
}

func pairOf(both [2]*role) []*role { return both[:] }

// P22.1, W3: what a kind does not tell is zero, beside an error too.
func TestNothingElseIsTold(t *testing.T) {
	for i, full := range few() {
		for _, r := range append(pairOf(whole(t, full, draw(13+i))), pairOf(anyhow(t, full, draw(13+i), 30))...) {
			for _, engine := range engines() {
				got, err := twin.Play(engine, r.setup, r.steps)
				if err != nil {
					t.Fatal(err)
				}
				for n, a := range got {
					kind := r.steps[n].Kind
					if len(a.Data) > 0 && (a.Err != nil || kind != write && kind != read) {
						t.Fatalf("%s, step %d of the kind %d: %s", full, n, kind, shown(a))
					}
					if a.Sight != (api.Sight{}) && kind != sight || a.Err != nil && kind == sight {
						t.Fatalf("%s, step %d of the kind %d: %s", full, n, kind, shown(a))
					}
				}
			}
		}
	}
}

// P22.1: one answer a step, and each in its place, of long scripts too.
func TestOneAnswerAStep(t *testing.T) {
	u := setups("N", 14)
	r := roleOf(t, suite.Plain(), u[first])
	r.write([]byte("hail"))
	for n := range 700 {
		r.write(make([]byte, n%40))
		if n%7 == 0 {
			r.sight()
		}
	}
	r.mustPlay(t)
	for n := range 12 {
		for _, engine := range engines() {
			got, err := twin.Play(engine, u[first], r.steps[:n])
			if err != nil {
				t.Fatal(err)
			}
			mustAnswer(t, fmt.Sprint(n, " steps"), got, r.want[:n])
		}
	}
}

// W1, P0.10: any bytes as names, payloads and messages: an end, and errors that the document names.
func TestAnyScript(t *testing.T) {
	d := draw(15)
	for range 300 {
		u := setups("NN", 15)[d.below(2)]
		switch d.below(4) {
		case 0:
			u.Name = string(d.bytes(d.below(300)))
		case 1:
			u.Name = nameOf(string(d.bytes(d.below(3))))
		}
		u.Prologue = d.bytes(d.below(200))
		var steps []api.Step
		for range d.below(9) {
			steps = append(steps, api.Step{Kind: d.below(8) - 1, Data: d.bytes(d.below(100)), Way: d.below(4) - 1, Number: uint64(d.below(3)) - 1})
		}
		got, ok := twin.Both(u, steps)
		if !ok || len(got) != 0 && len(got) != len(steps) {
			t.Fatalf("%q, %+v: %v, %d answers", u.Name, steps, ok, len(got))
		}
	}
}
