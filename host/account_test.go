package host_test

import (
	"slices"

	"tappet/api"
	"tappet/cmap"
	"tappet/engine"
	"tappet/judge"
	"tappet/place"
	"tappet/scratch"
	"tappet/wire"
)

// world is what a host is made of, and the choices by which it runs.
type world struct {
	config  api.Config
	scripts [][]api.Cmd
	choices []int
}

// wait is what a client waits for: so many parts, and those that came, by their tags; or the registry's answer.
type wait struct {
	missing int
	res     []api.Res
	walked  [][]api.Pair
	told    api.Answer
}

// ask is a request in an owner's line. Of a client's the event is 0, of a worker's the command.
type ask struct {
	from, cmd, tag, event int
	walk                  bool
	item                  api.Item
}

// call is a command in the registry's line, or one that it holds back; of a retire that is held back, at is how long the log was then.
type call struct {
	client int
	cmd    api.Cmd
	at     int
}

// program is one that was loaded.
type program struct {
	module        api.Module
	retired, gone bool
}

// account is a host told by its log: what can be looked up there isn't kept beside it. Tasks stand in one row, by their numbers.
type account struct {
	world
	log      []api.Entry
	turn     int
	last     []int
	waits    []*wait
	answers  [][]api.Answer
	events   []api.Event
	refused  []int
	machines []*engine.Machine
	scratch  []*scratch.Scratch
	came     []*api.Res
	lines    [][]ask
	maps     []*cmap.Map
	progs    []program
	calls    []call
	held     []call
	closer   int
}

// opened is the account of a new host.
func opened(w world) *account {
	a := &account{world: w, refused: make([]int, w.config.Hooks), lines: make([][]ask, w.config.Shards), closer: -1}
	for range a.registry() + 1 {
		a.last = append(a.last, 0)
		a.waits = append(a.waits, nil)
		a.answers = append(a.answers, nil)
		a.machines = append(a.machines, nil)
		a.scratch = append(a.scratch, scratch.New())
		a.came = append(a.came, nil)
	}
	for _, d := range w.config.Maps {
		m, _ := cmap.New(d, w.config.Shards)
		a.maps = append(a.maps, m)
	}
	return a
}

// workers, owners and registry are the first tasks of their kind.
func (a *account) workers() int  { return len(a.scripts) }
func (a *account) owners() int   { return a.workers() + a.config.Workers }
func (a *account) registry() int { return a.owners() + a.config.Shards }

// tell writes into the log.
func (a *account) tell(e api.Entry) {
	a.log = append(a.log, e)
}

// count is how many entries of the log are so.
func (a *account) count(so func(e *api.Entry) bool) int {
	n := 0
	for k := range a.log {
		if so(&a.log[k]) {
			n++
		}
	}
	return n
}

// newest is the place of the newest entry that is so, -1 if none is.
func (a *account) newest(so func(e *api.Entry) bool) int {
	for k := len(a.log) - 1; k >= 0; k-- {
		if so(&a.log[k]) {
			return k
		}
	}
	return -1
}

// lately is the newest entry of a task, or the zero one.
func (a *account) lately(task int) api.Entry {
	if k := a.newest(func(e *api.Entry) bool { return e.Task == task }); k >= 0 {
		return a.log[k]
	}
	return api.Entry{}
}

// over tells whether all of these tasks have ended.
func (a *account) over(from, to int) bool {
	return a.count(func(e *api.Entry) bool { return e.What == 15 && e.Task >= from && e.Task < to }) == to-from
}

// closed tells whether the host is.
func (a *account) closed() bool {
	return a.newest(func(e *api.Entry) bool { return e.What == 14 }) >= 0
}

// queued are the events that wait at a hook, in order.
func (a *account) queued(hook int) []int {
	var out []int
	for k := range a.log {
		if e := &a.log[k]; e.Hook != hook {
			continue
		} else if e.What == 4 {
			out = append(out, e.Event)
		} else if e.What == 5 || e.What == 10 {
			out = slices.DeleteFunc(out, func(n int) bool { return n == e.Event })
		}
	}
	return out
}

// anyQueued tells whether an event waits anywhere.
func (a *account) anyQueued() bool {
	for hook := range a.config.Hooks {
		if len(a.queued(hook)) > 0 {
			return true
		}
	}
	return false
}

// free tells whether a worker is at no event.
func (a *account) free(task int) bool {
	what := a.lately(task).What
	return what == 0 || what == 9 || what == 15
}

// allFree tells whether all workers are.
func (a *account) allFree() bool {
	for task := a.workers(); task < a.owners(); task++ {
		if !a.free(task) {
			return false
		}
	}
	return true
}

// ready are the tasks that are ready, rising.
func (a *account) ready() []int {
	var out []int
	for task := range a.registry() + 1 {
		if a.lately(task).What != 15 && a.able(task) {
			out = append(out, task)
		}
	}
	return out
}

// able tells whether a task that hasn't ended is ready.
func (a *account) able(task int) bool {
	switch {
	case task < a.workers():
		if a.waits[task] != nil {
			return a.waits[task].missing == 0
		}
		return a.issued(task) < len(a.scripts[task])
	case task < a.owners():
		if a.free(task) {
			return a.closed() || a.anyQueued()
		}
		return a.lately(task).What != 16 || a.came[task] != nil
	case task < a.registry():
		return len(a.lines[task-a.owners()]) > 0 || a.closed() && a.over(a.workers(), a.owners())
	}
	return a.finishable() >= 0 || len(a.calls) > 0 || a.closed() && a.over(a.workers(), a.registry()) && len(a.held) == 0
}

// issued is how many commands a client has issued.
func (a *account) issued(task int) int {
	return a.count(func(e *api.Entry) bool { return e.What == 1 && e.Task == task })
}

// pick is the task at this place of those that are ready, around.
func (a *account) pick(choice int) (int, bool) {
	ready := a.ready()
	if len(ready) == 0 {
		return 0, false
	}
	return ready[(choice%len(ready)+len(ready))%len(ready)], true
}

// fair is the one that is ready and hasn't had a turn for longest.
func (a *account) fair() (int, bool) {
	ready := a.ready()
	if len(ready) == 0 {
		return 0, false
	}
	return slices.MinFunc(ready, func(x, y int) int { return a.last[x] - a.last[y] }), true
}

// step is one of this task.
func (a *account) step(task int) {
	a.turn++
	a.last[task] = a.turn
	switch {
	case task < a.workers():
		a.client(task)
	case task < a.owners():
		a.worker(task)
	case task < a.registry():
		a.owner(task)
	default:
		a.desk()
	}
}

// wrong tells whether an item is.
func (a *account) wrong(i api.Item) bool {
	return i.Map < 0 || i.Map >= len(a.maps) || i.Op < 0 || i.Op > 4
}

// client is a client's step.
func (a *account) client(task int) {
	if w := a.waits[task]; w != nil {
		w.told.Res, w.told.Pairs = w.res, slices.Concat(w.walked...)
		a.returns(task, w.told)
		a.waits[task] = nil
		return
	}
	n := a.issued(task)
	a.tell(api.Entry{What: 1, Task: task, Cmd: n})
	cmd := a.scripts[task][n]
	switch {
	case a.closed():
		a.returns(task, api.Answer{E: 43})
	case cmd.Kind == 0:
		a.batch(task, n, cmd.Item)
	case cmd.Kind == 1:
		a.batch(task, n, cmd.Items...)
	case cmd.Kind == 2 && cmd.Map >= 0 && cmd.Map < len(a.maps):
		for shard := range a.lines {
			a.lines[shard] = append(a.lines[shard], ask{from: task, cmd: n, tag: shard, walk: true, item: api.Item{Map: cmd.Map}})
		}
		a.waits[task] = &wait{missing: len(a.lines), walked: make([][]api.Pair, len(a.lines))}
	case cmd.Kind == 3 && cmd.Hook >= 0 && cmd.Hook < a.config.Hooks:
		a.fire(task, n, cmd)
	case cmd.Kind >= 4 && cmd.Kind <= 10:
		a.calls = append(a.calls, call{client: task, cmd: cmd})
		a.waits[task] = &wait{missing: 1}
	default:
		a.returns(task, api.Answer{E: 2})
	}
}

// returns is that a client's newest command does.
func (a *account) returns(task int, with api.Answer) {
	a.tell(api.Entry{What: 2, Task: task, Cmd: a.issued(task) - 1, E: with.E, Val: uint64(with.N)})
	a.answers[task] = append(a.answers[task], with)
}

// batch asks owners for items.
func (a *account) batch(task, n int, items ...api.Item) {
	if len(items) == 0 || len(items) > 16 || slices.ContainsFunc(items, a.wrong) {
		a.returns(task, api.Answer{E: 2})
		return
	}
	for tag, i := range items {
		a.asks(ask{from: task, cmd: n, tag: tag, item: i})
	}
	a.waits[task] = &wait{missing: len(items), res: make([]api.Res, len(items))}
}

// asks puts a request for an operation into a line.
func (a *account) asks(q ask) {
	shard := place.Of(q.item.Key, a.config.Shards)
	a.lines[shard] = append(a.lines[shard], q)
}

// fire is that an event is accepted, or not.
func (a *account) fire(task, n int, cmd api.Cmd) {
	if len(a.queued(cmd.Hook)) == a.config.Ring {
		a.refused[cmd.Hook]++
		a.returns(task, api.Answer{E: 40})
		return
	}
	a.events = append(a.events, cmd.Event)
	a.tell(api.Entry{What: 4, Task: task, Cmd: n, Hook: cmd.Hook, Event: len(a.events)})
	a.returns(task, api.Answer{N: len(a.events)})
}

// at is what was published at a hook last.
func (a *account) at(hook int) api.Entry {
	if k := a.newest(func(e *api.Entry) bool { return e.What == 11 && e.Hook == hook }); k >= 0 {
		return a.log[k]
	}
	return api.Entry{}
}

// hookOf is the hook of an event.
func (a *account) hookOf(event int) int {
	return a.log[a.newest(func(e *api.Entry) bool { return e.What == 4 && e.Event == event })].Hook
}

// worker is a worker's step.
func (a *account) worker(task int) {
	newest := a.lately(task)
	switch {
	case a.free(task) && a.closed():
		a.tell(api.Entry{What: 15, Task: task})
	case a.free(task):
		a.take(task)
	case newest.What == 5:
		a.enter(task, newest.Hook, newest.Event)
	case newest.What == 16:
		a.machines[task].Answer(*a.came[task])
		newest.What, newest.Item, newest.Res = 17, api.Item{}, *a.came[task]
		a.tell(newest)
	default:
		a.run(task, newest)
	}
}

// take is that a worker takes an event from the next ring that has one, behind that of which it took last.
func (a *account) take(task int) {
	hook := 0
	if k := a.newest(func(e *api.Entry) bool { return e.What == 5 && e.Task == task }); k >= 0 {
		hook = a.log[k].Hook + 1
	}
	for len(a.queued(hook%a.config.Hooks)) == 0 {
		hook++
	}
	hook %= a.config.Hooks
	a.tell(api.Entry{What: 5, Task: task, Hook: hook, Event: a.queued(hook)[0]})
}

// enter is that a worker begins what is at the hook, or skips the event.
func (a *account) enter(task, hook, event int) {
	at := a.at(hook)
	if at.Version == 0 {
		a.tell(api.Entry{What: 9, Task: task, Hook: hook, Event: event})
		return
	}
	a.machines[task], _ = engine.New(a.progs[at.Prog-1].module, a.events[event-1], a.scratch[task])
	a.tell(api.Entry{What: 6, Task: task, Hook: hook, Event: event, Prog: at.Prog, Version: at.Version})
}

// run is a step of a worker's machine.
func (a *account) run(task int, newest api.Entry) {
	act := a.machines[task].Step()
	e := api.Entry{Task: task, Event: newest.Event, Prog: newest.Prog, Version: newest.Version, Pc: act.Pc, Val: act.Val}
	switch act.Kind {
	case 1:
		e.What = 7
	case 2:
		e.What, e.Item = 16, act.Item
		a.came[task] = nil
		a.asks(ask{from: task, event: e.Event, item: act.Item})
	case 3:
		e.What = 8
	case 4:
		e.What, e.Hook = 9, a.hookOf(e.Event)
	}
	a.tell(e)
}

// owner is an owner's step.
func (a *account) owner(task int) {
	shard := task - a.owners()
	if len(a.lines[shard]) == 0 {
		a.tell(api.Entry{What: 15, Task: task})
		return
	}
	q := a.lines[shard][0]
	a.lines[shard] = a.lines[shard][1:]
	if q.walk {
		a.waits[q.from].walked[shard], _ = a.maps[q.item.Map].Part(shard)
		a.waits[q.from].missing--
		return
	}
	res := a.maps[q.item.Map].Do(q.item.Op, q.item.Key, q.item.Val)
	a.tell(api.Entry{What: 3, Task: task, From: q.from, Cmd: q.cmd, Tag: q.tag, Event: q.event, Item: q.item, Res: res})
	if q.event > 0 {
		a.came[q.from] = &res
		return
	}
	a.waits[q.from].res[q.tag] = res
	a.waits[q.from].missing--
}

// finishable is the place of the first call held back that can be finished, -1 if none can. A retire can, if nobody is in a run that began ahead of it.
func (a *account) finishable() int {
	return slices.IndexFunc(a.held, func(c call) bool {
		if c.cmd.Kind == 9 {
			return !a.anyQueued() && a.allFree()
		}
		for task := a.workers(); task < a.owners(); task++ {
			began := a.newest(func(e *api.Entry) bool { return e.What == 6 && e.Task == task })
			done := a.newest(func(e *api.Entry) bool { return e.What == 9 && e.Task == task })
			if began > done && began < c.at {
				return false
			}
		}
		return true
	})
}

// learns is that the registry answers a client.
func (a *account) learns(client int, with api.Answer) {
	a.waits[client].told, a.waits[client].missing = with, 0
}

// desk is a step of the registry.
func (a *account) desk() {
	me := a.registry()
	if k := a.finishable(); k >= 0 {
		c := a.held[k]
		a.held = slices.Concat(a.held[:k], a.held[k+1:])
		if c.cmd.Kind == 8 {
			a.progs[c.cmd.Prog-1].gone = true
			a.tell(api.Entry{What: 13, Task: me, Prog: c.cmd.Prog})
		}
		a.learns(c.client, api.Answer{})
		return
	}
	if len(a.calls) == 0 {
		a.tell(api.Entry{What: 15, Task: me})
		a.learns(a.closer, api.Answer{})
		return
	}
	c := a.calls[0]
	a.calls = a.calls[1:]
	if a.closed() {
		a.learns(c.client, api.Answer{E: 43})
	} else if with, now := a.does(me, c); now {
		a.learns(c.client, with)
	}
}

// does is what the registry does with a command of an open host: its answer, if it has one now.
func (a *account) does(me int, c call) (api.Answer, bool) {
	switch cmd := c.cmd; cmd.Kind {
	case 4:
		return a.load(me, cmd.Module), true
	case 5, 6:
		return a.publish(me, cmd), true
	case 7:
		if cmd.Hook < 0 || cmd.Hook >= a.config.Hooks {
			return api.Answer{E: 2}, true
		}
		if a.at(cmd.Hook).Version == 0 {
			return api.Answer{E: 41}, true
		}
		a.tell(api.Entry{What: 11, Task: me, Hook: cmd.Hook})
		return api.Answer{}, true
	case 8:
		if e := a.retire(cmd.Prog); e != 0 {
			return api.Answer{E: e}, true
		}
		a.held = append(a.held, call{c.client, cmd, len(a.log)})
	case 9:
		a.held = append(a.held, c)
	case 10:
		a.closer = c.client
		for hook := range a.config.Hooks {
			for _, event := range a.queued(hook) {
				a.tell(api.Entry{What: 10, Task: me, Hook: hook, Event: event})
			}
		}
		a.tell(api.Entry{What: 14, Task: me})
	}
	return api.Answer{}, false
}

// load lets a program in, or not.
func (a *account) load(me int, b []byte) api.Answer {
	m, _, e := wire.Decode(b)
	if e == 0 {
		_, e = judge.Judge(m)
	}
	if e != 0 {
		return api.Answer{E: e}
	}
	if slices.ContainsFunc(m.Maps, func(n int) bool { return n >= len(a.maps) }) {
		return api.Answer{E: 41}
	}
	if a.refs(func(m api.Module) bool { return true }) >= 16 {
		return api.Answer{E: 40}
	}
	a.progs = append(a.progs, program{module: m})
	a.tell(api.Entry{What: 12, Task: me, Prog: len(a.progs)})
	return api.Answer{N: len(a.progs)}
}

// refs is how many programs that aren't gone are so.
func (a *account) refs(so func(m api.Module) bool) int {
	n := 0
	for _, p := range a.progs {
		if !p.gone && so(p.module) {
			n++
		}
	}
	return n
}

// publish attaches or swaps, or doesn't.
func (a *account) publish(me int, cmd api.Cmd) api.Answer {
	if cmd.Hook < 0 || cmd.Hook >= a.config.Hooks {
		return api.Answer{E: 2}
	}
	if cmd.Prog < 1 || cmd.Prog > len(a.progs) || a.progs[cmd.Prog-1].retired {
		return api.Answer{E: 41}
	}
	if there := a.at(cmd.Hook).Version > 0; there && cmd.Kind == 5 {
		return api.Answer{E: 42}
	} else if !there && cmd.Kind == 6 {
		return api.Answer{E: 41}
	}
	version := 1 + a.count(func(e *api.Entry) bool { return e.What == 11 && e.Version > 0 })
	a.tell(api.Entry{What: 11, Task: me, Hook: cmd.Hook, Prog: cmd.Prog, Version: version})
	return api.Answer{N: version}
}

// retire has a program wait, or not.
func (a *account) retire(prog int) api.Errno {
	if prog < 1 || prog > len(a.progs) || a.progs[prog-1].gone {
		return 41
	}
	if a.progs[prog-1].retired {
		return 42
	}
	for hook := range a.config.Hooks {
		if at := a.at(hook); at.Version > 0 && at.Prog == prog {
			return 42
		}
	}
	a.progs[prog-1].retired = true
	return 0
}
