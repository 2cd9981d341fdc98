package twin

import (
	"pintle/api"
	"pintle/session"
	"pintle/suite"
	"pintle/trace"
)

// play plays a script on an engine that logs in r, if it logs.
func play(engine int, r *trace.Recorder, u api.Setup, steps []api.Step) ([]api.Answer, error) {
	s, err := suite.Of(engine, r)
	if err != nil {
		return nil, err
	}
	t, err := session.New(s, u)
	if err != nil {
		return nil, err
	}
	table := deeds()
	answers := make([]api.Answer, len(steps))
	for i, step := range steps {
		answers[i] = table[placeOf(step.Kind)](t, step)
	}
	return answers, nil
}

// deed is what a step does to a session, and what it tells.
type deed func(t *session.Session, step api.Step) api.Answer

// deeds are by the kind of a step; the first one is that of all that is no kind.
func deeds() [api.StepSight + 1]deed {
	return [...]deed{
		noKind,
		api.StepWrite: write,
		api.StepRead:  read,
		api.StepRekey: rekey,
		api.StepNonce: setNonce,
		api.StepSight: sight,
	}
}

// placeOf is where a kind stands in the table: any number may come as one.
func placeOf(kind int) int {
	if kind < api.StepWrite || kind > api.StepSight {
		return 0
	}
	return kind
}

func noKind(*session.Session, api.Step) api.Answer { return api.Answer{Err: api.ErrKind} }

func write(t *session.Session, step api.Step) api.Answer {
	message, err := t.Write(step.Data)
	return api.Answer{Err: err, Data: message}
}

func read(t *session.Session, step api.Step) api.Answer {
	payload, err := t.Read(step.Data)
	return api.Answer{Err: err, Data: payload}
}

func rekey(t *session.Session, step api.Step) api.Answer {
	return api.Answer{Err: t.Rekey(step.Way)}
}

func setNonce(t *session.Session, step api.Step) api.Answer {
	return api.Answer{Err: t.SetNonce(step.Way, step.Number)}
}

func sight(t *session.Session, _ api.Step) api.Answer { return api.Answer{Sight: t.Sight()} }
