package audit

import (
	"tappet/api"
)

// runs looks for what is done outside of a run, or by another version than the one at the hook.
type runs struct {
	at        map[int]api.Entry // by hook: its last MarkPublish
	in        map[int]api.Entry // by task that is in a run: its MarkEnter
	published bool
	newest    int // of all published versions, if there is one
}

func newRuns() *runs {
	return &runs{at: map[int]api.Entry{}, in: map[int]api.Entry{}}
}

func (r *runs) wrong(e api.Entry) bool {
	switch e.What {
	case api.MarkPublish:
		return r.wrongPublish(e)
	case api.MarkEnter:
		return r.wrongEnter(e)
	case api.MarkRan, api.MarkNote, api.MarkAsk, api.MarkBack:
		return !r.runs(e)
	case api.MarkDone:
		return r.wrongDone(e)
	}
	return false
}

func (r *runs) wrongPublish(e api.Entry) bool {
	r.at[e.Hook] = e
	if !r.published || e.Version > r.newest {
		r.published, r.newest = true, e.Version
		return false
	}
	return e.Version != 0
}

func (r *runs) wrongEnter(e api.Entry) bool {
	_, busy := r.in[e.Task]
	r.in[e.Task] = e
	at := r.at[e.Hook]
	return busy || e.Version == 0 || e.Prog != at.Prog || e.Version != at.Version
}

// runs: is the entry's task in the run that it tells of?
func (r *runs) runs(e api.Entry) bool {
	in, busy := r.in[e.Task]
	return busy && sameRun(e, in)
}

// wrongDone: with Version 0 an event was skipped, as nothing was at its hook.
func (r *runs) wrongDone(e api.Entry) bool {
	in, busy := r.in[e.Task]
	if e.Version == 0 {
		return busy || e.Prog != 0 || r.at[e.Hook].Version != 0
	}
	delete(r.in, e.Task)
	return !busy || e.Hook != in.Hook || !sameRun(e, in)
}
