package host

import (
	"tappet/api"
	"tappet/worker"
)

// hand is a worker as a task: its number among the workers, the hook at which it looks for an event first, and, while it waits, the place of the call and (once it has come) what that was answered.
type hand struct {
	seat
	*worker.Worker
	number int
	cursor int
	pc     int
	came   bool
	res    api.Res
}

func (w *hand) able() bool {
	switch w.Mode() {
	case worker.Idle:
		return w.host.closed || w.host.queued()
	case worker.Waiting:
		return w.came
	}
	return true
}

func (w *hand) act() {
	switch w.Mode() {
	case worker.Idle:
		w.next()
	case worker.Took:
		w.begin()
	case worker.Running:
		w.run()
	case worker.Waiting:
		w.resume()
	}
}

func (w *hand) cause() (cmd, event int) {
	_, q := w.Has()
	return 0, q.N
}

func (w *hand) hear(r api.Reply) {
	w.came, w.res = true, r.Res
}

// next takes an event from the first ring that has one, or ends.
func (w *hand) next() {
	if w.host.closed {
		w.stop()
		return
	}
	hooks := len(w.host.rings)
	for n := range hooks {
		hook := (w.cursor + n) % hooks
		q, ok := w.host.rings[hook].Take()
		if !ok {
			continue
		}
		w.Take(hook, q)
		w.cursor = (hook + 1) % hooks
		w.tell(api.Entry{What: api.MarkTake, Hook: hook, Event: q.N})
		return
	}
}

// begin enters what is at the event's hook. Where nothing is there is no module, which the worker refuses: then it skips the event.
func (w *hand) begin() {
	hook, q := w.Has()
	version, prog, _ := w.host.Current(hook)
	m, _ := w.host.Module(prog)
	if w.Enter(version, prog, m) != api.OK {
		w.Skip()
		w.tell(api.Entry{What: api.MarkDone, Hook: hook, Event: q.N})
		return
	}
	w.host.Enter(w.number)
	w.tell(api.Entry{What: api.MarkEnter, Hook: hook, Event: q.N, Prog: prog, Version: version})
}

// run is a step of the machine.
func (w *hand) run() {
	// Behind its last step the worker doesn't know any more what it ran.
	hook, _ := w.Has()
	e := w.running()
	act, _ := w.Step()
	e.Pc, e.Val = act.Pc, act.Val
	switch act.Kind {
	case api.ActRan:
		e.What = api.MarkRan
	case api.ActNote:
		e.What = api.MarkNote
	case api.ActCall:
		e.What, e.Item = api.MarkAsk, act.Item
		w.pc, w.came = act.Pc, false
		w.host.request(api.Request{From: w.task, Item: act.Item})
	case api.ActEnd:
		e.What, e.Hook = api.MarkDone, hook
		w.host.Leave(w.number)
	}
	w.tell(e)
}

// resume hands the reply that came to the machine.
func (w *hand) resume() {
	e := w.running()
	e.What, e.Pc, e.Res = api.MarkBack, w.pc, w.res
	w.Answer(w.res)
	w.tell(e)
}

// running is an entry of the run that the worker is in.
func (w *hand) running() api.Entry {
	_, q := w.Has()
	version, prog := w.Runs()
	return api.Entry{Event: q.N, Prog: prog, Version: version}
}
