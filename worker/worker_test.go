package worker_test

import (
	"fmt"
	"math"
	"slices"
	"strings"
	"testing"

	"tappet/api"
	"tappet/engine"
	"tappet/judge"
	"tappet/lines"
	"tappet/scratch"
	"tappet/stats"
	"tappet/worker"
)

const most uint64 = math.MaxUint64

// view is all that can be read of a worker.
type view struct {
	mode          worker.Mode
	hook          int
	event         api.Queued
	version, prog int
	words, counts [16]uint64
	tallies       [4]api.Tally
}

// look reads a worker, twice, as reading changes nothing.
func look(t *testing.T, w *worker.Worker) view {
	t.Helper()
	v := glance(t, w)
	if again := glance(t, w); again != v {
		t.Errorf("P23.7: read once more it is %+v, not %+v", again, v)
	}
	return v
}

// glance reads a worker.
func glance(t *testing.T, w *worker.Worker) view {
	t.Helper()
	v := view{mode: w.Mode()}
	v.hook, v.event = w.Has()
	v.version, v.prog = w.Runs()
	for k := range 16 {
		word, e := w.Load(k)
		count, f := w.Count(k)
		if e != api.OK || f != api.OK {
			t.Fatalf("Load(%d), Count(%d): %v, %v", k, k, e, f)
		}
		v.words[k], v.counts[k] = word, count
	}
	for hook := range 4 {
		tally, e := w.Of(hook)
		if e != api.OK {
			t.Fatalf("Of(%d): %v", hook, e)
		}
		v.tallies[hook] = tally
	}
	return v
}

// wants fails if what can be read of a worker isn't this.
func wants(t *testing.T, when string, w *worker.Worker, v view) {
	t.Helper()
	if got := look(t, w); got != v {
		t.Errorf("%s: %+v, want %+v", when, got, v)
	}
}

// module is one of lines with commas between them, with two maps, neither of which has its place among them as its number.
func module(t *testing.T, text string) api.Module {
	t.Helper()
	is, n, e := lines.Parse(strings.ReplaceAll(text, ", ", "\n") + "\n")
	if e != api.OK {
		t.Fatalf("%q: line %d: %v", text, n, e)
	}
	return api.Module{Maps: []int{2, 0}, Code: is}
}

// modes are the four.
func modes() []worker.Mode {
	return []worker.Mode{worker.Idle, worker.Took, worker.Running, worker.Waiting}
}

// given is the event of workers that aren't idle.
func given() api.Queued {
	return api.Queued{N: 4, Event: api.Event{A: 5, B: 6}}
}

// asking is the program that workers run: it adds 40 to the event's key, and ends with one more than it was answered.
const asking = "field r2 0, map r1 0, set r3 40, call 4, add r0 r0 1, exit r0"

// in is a worker in a mode, of which each word, counter and tally was used, and its view. If it isn't idle, it took given at hook 2; if it runs or waits, then asking, by version 3 and program 7, ahead of or behind its call.
func in(t *testing.T, mode worker.Mode) (*worker.Worker, view) {
	t.Helper()
	w, v := worker.New(), view{mode: mode}
	if mode != worker.Idle {
		takes(t, w, api.OK, 2, given())
		v.hook, v.event = 2, given()
	}
	if mode == worker.Running || mode == worker.Waiting {
		enters(t, w, api.OK, 3, 7, module(t, asking))
		v.version, v.prog = 3, 7
		for range 3 + min(1, mode-worker.Running) {
			w.Step()
		}
	}
	for k := range uint64(16) {
		w.Store(int(k), 100+k)
		w.Raise(append(make([]uint64, k), 200+k)...)
		v.words[k], v.counts[k] = 100+k, 200+k
	}
	for hook := range uint64(4) {
		w.Ran(int(hook), 10+hook, 20+hook, 30+hook)
		w.Missed(int(hook), int(hook))
		v.tallies[hook] = api.Tally{Runs: 1, Missed: 2, Steps: 10 + hook, Calls: 20 + hook, Sum: 30 + hook}
	}
	wants(t, fmt.Sprintf("made in mode %d", mode), w, v)
	return w, v
}

// takes fails if Take isn't answered so.
func takes(t *testing.T, w *worker.Worker, want api.Errno, hook int, q api.Queued) {
	t.Helper()
	if e := w.Take(hook, q); e != want {
		t.Errorf("P23.2: Take(%d, %v) in mode %d: %v, want %v", hook, q, w.Mode(), e, want)
	}
}

// enters fails if Enter isn't answered so.
func enters(t *testing.T, w *worker.Worker, want api.Errno, version, prog int, m api.Module) {
	t.Helper()
	if e := w.Enter(version, prog, m); e != want {
		t.Errorf("P23.3: Enter(%d, %d, %v): %v, want %v", version, prog, m, e, want)
	}
}

// skips fails if Skip isn't answered so.
func skips(t *testing.T, w *worker.Worker, want api.Errno) {
	t.Helper()
	if e := w.Skip(); e != want {
		t.Errorf("P23.4: Skip: %v, want %v", e, want)
	}
}

// steps fails if Step isn't answered so, and true.
func steps(t *testing.T, w *worker.Worker, want api.Act) {
	t.Helper()
	if act, ok := w.Step(); act != want || !ok {
		t.Errorf("P23.5: Step: %+v, %v, want %+v, true", act, ok, want)
	}
}

// stays fails if Step doesn't answer the zero Act and false.
func stays(t *testing.T, w *worker.Worker) {
	t.Helper()
	if act, ok := w.Step(); act != (api.Act{}) || ok {
		t.Errorf("P23.5: Step in mode %d: %+v, %v", w.Mode(), act, ok)
	}
}

// answers fails if Answer isn't answered so.
func answers(t *testing.T, w *worker.Worker, want api.Errno, r api.Res) {
	t.Helper()
	if e := w.Answer(r); e != want {
		t.Errorf("P23.6: Answer(%+v) in mode %d: %v, want %v", r, w.Mode(), e, want)
	}
}

// ends steps a worker that runs to its end, and is what was told. Its calls are answered with rs, one behind the other, and with the zero Res, where none is left. At each step it runs, waits or is idle as the act tells.
func ends(t *testing.T, w *worker.Worker, rs ...api.Res) []api.Act {
	t.Helper()
	var acts []api.Act
	for range 300 {
		hook, q := w.Has()
		version, prog := w.Runs()
		act, ok := w.Step()
		if !ok {
			t.Fatalf("P23.5: it doesn't run, behind %d steps", len(acts))
		}
		acts = append(acts, act)
		v := glance(t, w)
		switch act.Kind {
		case api.ActEnd:
			if v.mode != worker.Idle || v.hook != 0 || v.event != (api.Queued{}) || v.version != 0 || v.prog != 0 {
				t.Errorf("P23.5, P23.7: at its end: %+v", v)
			}
			stays(t, w)
			answers(t, w, api.ErrNone, api.Res{Val: 1})
			return acts
		case api.ActCall:
			if v.mode != worker.Waiting {
				t.Errorf("P23.5: behind a call in mode %d", v.mode)
			}
			stays(t, w)
			r := api.Res{}
			if len(rs) > 0 {
				r, rs = rs[0], rs[1:]
			}
			answers(t, w, api.OK, r)
		default:
			answers(t, w, api.ErrNone, api.Res{Val: 1})
		}
		if h, p := w.Has(); w.Mode() != worker.Running || h != hook || p != q {
			t.Errorf("P23.7: behind %+v in mode %d at %d, %v", act, w.Mode(), h, p)
		}
		if a, b := w.Runs(); a != version || b != prog {
			t.Errorf("P23.7: behind %+v by %d, %d", act, a, b)
		}
	}
	t.Fatal("P23.5: it doesn't end")
	return nil
}

// TestExamples: the chapter's table.
func TestExamples(t *testing.T) {
	w := worker.New()
	m := module(t, "set r1 2, call 5, map r1 0, set r2 8, call 0, exit r0")
	m.Maps = []int{3}
	q := api.Queued{N: 4, Event: api.Event{A: 5, B: 6}}
	stays(t, w)
	takes(t, w, api.ErrArg, 9, q)
	takes(t, w, api.OK, 1, q)
	takes(t, w, api.ErrBusy, 1, q)
	wants(t, "took", w, view{mode: worker.Took, hook: 1, event: q})
	enters(t, w, api.OK, 3, 7, m)
	wants(t, "entered", w, view{mode: worker.Running, hook: 1, event: q, version: 3, prog: 7})
	enters(t, w, api.ErrNone, 3, 7, m)
	steps(t, w, api.Act{Kind: api.ActRan})
	steps(t, w, api.Act{Kind: api.ActRan, Pc: 1, Val: 1})
	steps(t, w, api.Act{Kind: api.ActRan, Pc: 2})
	steps(t, w, api.Act{Kind: api.ActRan, Pc: 3})
	steps(t, w, api.Act{Kind: api.ActCall, Pc: 4, Item: api.Item{Map: 3, Op: api.MapGet, Key: 8}})
	stays(t, w)
	answers(t, w, api.OK, api.Res{Val: 9})
	steps(t, w, api.Act{Kind: api.ActEnd, Pc: 5, Val: 9})
	v := view{tallies: [4]api.Tally{1: {Runs: 1, Steps: 6, Calls: 1, Sum: 9}}}
	v.counts[2] = 1
	wants(t, "ended", w, v)
}

// TestModes: the four numbers are the chapter's.
func TestModes(t *testing.T) {
	if got := modes(); !slices.Equal(got, []worker.Mode{0, 1, 2, 3}) {
		t.Errorf("the modes are %d", got)
	}
}

// TestNew: P23.1; an idle worker without anything, whatever was done to those made ahead of it, and no two share a scratch or Stats.
func TestNew(t *testing.T) {
	for _, mode := range modes() {
		a, v := in(t, mode)
		b, c := worker.New(), worker.New()
		if b == nil || c == nil || b == c || b.Scratch == nil || b.Stats == nil || b.Scratch == c.Scratch || b.Stats == c.Stats || a.Scratch == b.Scratch || a.Stats == b.Stats {
			t.Fatal("P23.1: New answers none, or one twice, or one without its parts")
		}
		wants(t, "a new one", b, view{})
		stays(t, b)
		enters(t, b, api.ErrNone, 1, 1, module(t, asking))
		skips(t, b, api.ErrNone)
		answers(t, b, api.ErrNone, api.Res{})
		wants(t, "a new one behind what is refused", b, view{})
		takes(t, b, api.OK, 3, given())
		enters(t, b, api.OK, 8, 9, module(t, asking))
		ends(t, b)
		wants(t, "another new one", c, view{})
		wants(t, "the old one", a, v)
	}
}

// noHooks are numbers of no hook: those beside them, far ones, and such that are a hook's modulo 2^8, 2^16 or 2^32, or but for their sign.
func noHooks() []int {
	return []int{-1, api.MaxHooks, math.MaxInt, math.MinInt, -2, -3, -4, 5, 6, 7, 8, 9, 16, 255, 256, 257, 65536, 65537, -256, -65536,
		math.MaxInt32, math.MinInt32, 1 << 32, 1<<32 + 1, -1 << 32, -1<<32 + 1, math.MaxInt - 1, math.MinInt + 1, math.MinInt + 2}
}

// ints are numbers of any call: 0, beside it, far ones, and the ends.
func ints() []int {
	return []int{0, 1, -1, 7, -7, math.MaxInt32, math.MinInt32, 1 << 32, math.MaxInt, math.MinInt, math.MaxInt - 1, math.MinInt + 1}
}

// queues are events of zeros, of the greatest numbers, and of others, with all numbers.
func queues() []api.Queued {
	var out []api.Queued
	for _, n := range ints() {
		for _, e := range []api.Event{{}, {A: most, B: most}, {A: most}, {B: most}, {A: 1 << 63, B: 1<<63 - 1}, {A: 8, B: 9}} {
			out = append(out, api.Queued{N: n, Event: e})
		}
	}
	return out
}

// TestTakeNoHook: P23.2; a number of no hook is ErrArg in each mode, also where the worker is busy, and nothing changes.
func TestTakeNoHook(t *testing.T) {
	for _, mode := range modes() {
		w, v := in(t, mode)
		for _, hook := range noHooks() {
			for _, q := range []api.Queued{{}, given(), {N: 9, Event: api.Event{A: 1, B: most}}} {
				takes(t, w, api.ErrArg, hook, q)
			}
			wants(t, fmt.Sprintf("mode %d, no hook %d", mode, hook), w, v)
		}
	}
}

// TestTakeBusy: P23.2; a worker that isn't idle takes no event, not even the same, and nothing changes.
func TestTakeBusy(t *testing.T) {
	for _, mode := range modes()[1:] {
		w, v := in(t, mode)
		for hook := range 4 {
			for _, q := range []api.Queued{{}, given(), {N: 9, Event: api.Event{A: 1, B: most}}} {
				takes(t, w, api.ErrBusy, hook, q)
			}
			wants(t, fmt.Sprintf("mode %d, hook %d", mode, hook), w, v)
		}
	}
}

// TestTake: P23.2, P23.7; each hook and all events: Has tells them, all else stays, the words too; a program reads that event, and an idle worker has none.
func TestTake(t *testing.T) {
	for hook := range 4 {
		for _, q := range queues() {
			w, v := in(t, worker.Idle)
			takes(t, w, api.OK, hook, q)
			v.mode, v.hook, v.event = worker.Took, hook, q
			wants(t, "took", w, v)
			enters(t, w, api.OK, 1, 1, module(t, "field r0 0, store r0 3, field r1 1, store r1 4, exit r1"))
			acts := ends(t, w)
			if last := acts[len(acts)-1]; last != (api.Act{Kind: api.ActEnd, Pc: 4, Val: q.Event.B}) {
				t.Errorf("P23.3: %v: it ended by %+v", q, last)
			}
			v.mode, v.hook, v.event = worker.Idle, 0, api.Queued{}
			v.words = [16]uint64{3: q.Event.A, 4: q.Event.B}
			v.tallies[hook] = stats.Add(v.tallies[hook], api.Tally{Runs: 1, Steps: 5, Sum: q.Event.B})
			wants(t, "ended", w, v)
		}
	}
}

// wrong are modules that the judge refuses, of each of its errors at least one.
func wrong(t *testing.T) map[api.Errno][]api.Module {
	t.Helper()
	good := module(t, asking).Code
	long := api.Module{Code: slices.Repeat(good[:1], 64)}
	long.Code = append(long.Code, api.Inst{Op: api.OpExit, A: 2})
	out := map[api.Errno][]api.Module{
		api.ErrArg:   {{Maps: []int{4}, Code: good}, {Maps: []int{-1}, Code: good}, {Maps: []int{1, 1}, Code: good}, {Maps: []int{0, 1, 2, 3, 0}, Code: good}, {Maps: []int{4}}},
		api.ErrShort: {{}, {Maps: []int{2, 0}}, {Code: good[:0]}},
		api.ErrLong:  {long},
		api.ErrForm:  {{Code: []api.Inst{{Op: 23}}}, {Code: []api.Inst{{Op: api.OpCall, Imm: 7}, {Op: api.OpExit}}}, {Code: []api.Inst{{Op: api.OpExit, A: 8}}}},
	}
	for e, texts := range map[api.Errno][]string{
		api.ErrEnd:   {"set r0 1", "set r1 2, call 5"},
		api.ErrFlow:  {"jump 1, exit r0", "set r1 1, loop r1 2 1, exit r1"},
		api.ErrLoop:  {"jump 1, set r1 9, set r1 8, loop r1 2 1, exit r1"},
		api.ErrCost:  {"set r1 1, loop r1 1 200, loop r1 2 200, exit r1", "set r0 5, set r2 5, set r1 1, loop r1 1 126, exit r0"},
		api.ErrType:  {"exit r0", "map r1 0, exit r1", "set r1 5, map r1 0, set r2 1, loop r2 2 9, exit r2"},
		api.ErrBound: {"field r1 0, load r0 r1, exit r0", "map r1 2, set r0 0, exit r0", "field r1 0, call 5, exit r0"},
	} {
		for _, text := range texts {
			out[e] = append(out[e], module(t, text))
		}
	}
	for e, ms := range out {
		for _, m := range ms {
			if _, got := judge.Judge(m); got != e || e == api.OK {
				t.Fatalf("%v: the judge says %v, not %v", m, got, e)
			}
		}
	}
	return out
}

// TestEnterModes: P23.3; unless it took an event and hasn't entered, Enter is ErrNone, of a good module and of each wrong one, and nothing changes.
func TestEnterModes(t *testing.T) {
	for _, mode := range modes() {
		if mode == worker.Took {
			continue
		}
		w, v := in(t, mode)
		enters(t, w, api.ErrNone, 30, 70, module(t, asking))
		enters(t, w, api.ErrNone, 30, 70, module(t, "set r0 1, exit r0"))
		for _, ms := range wrong(t) {
			for _, m := range ms {
				enters(t, w, api.ErrNone, 30, 70, m)
			}
		}
		wants(t, fmt.Sprintf("mode %d", mode), w, v)
	}
}

// TestEnterWrong: P23.3; a module that the judge refuses is refused with its error, and nothing changes, no word either; behind it a right one is entered, or the event is skipped.
func TestEnterWrong(t *testing.T) {
	all := wrong(t)
	for e, ms := range all {
		for _, m := range ms {
			w, v := in(t, worker.Took)
			for range 3 {
				enters(t, w, e, 30, 70, m)
				wants(t, "a wrong module", w, v)
			}
			stays(t, w)
			answers(t, w, api.ErrNone, api.Res{})
			takes(t, w, api.ErrBusy, 1, given())
			wants(t, "behind a wrong module", w, v)
			enters(t, w, api.OK, 3, 7, module(t, asking))
			v.mode, v.version, v.prog, v.words = worker.Running, 3, 7, [16]uint64{}
			wants(t, "a right module behind a wrong one", w, v)
			acts := ends(t, w, api.Res{Val: 8})
			if last := acts[len(acts)-1]; len(acts) != 6 || last != (api.Act{Kind: api.ActEnd, Pc: 5, Val: 9}) {
				t.Errorf("P23.3: behind a wrong module: %+v", acts)
			}
			w, v = in(t, worker.Took)
			enters(t, w, e, 30, 70, m)
			skips(t, w, api.OK)
			v.mode, v.hook, v.event = worker.Idle, 0, api.Queued{}
			v.tallies[2].Missed++
			wants(t, "skipped behind a wrong module", w, v)
		}
	}
	if len(all) != 10 {
		t.Errorf("the modules are refused by %d errors", len(all))
	}
}

// TestEnterNumbers: P23.3, P23.7; version and program may be any numbers: Runs tells them, while it runs and waits.
func TestEnterNumbers(t *testing.T) {
	for _, version := range ints() {
		for _, prog := range ints() {
			w, v := in(t, worker.Took)
			enters(t, w, api.OK, version, prog, module(t, asking))
			v.mode, v.version, v.prog, v.words = worker.Running, version, prog, [16]uint64{}
			wants(t, "entered", w, v)
			for range 4 {
				w.Step()
			}
			v.mode = worker.Waiting
			wants(t, "waits", w, v)
			answers(t, w, api.OK, api.Res{})
			v.mode = worker.Running
			wants(t, "runs again", w, v)
			ends(t, w)
			if a, b := w.Runs(); a != 0 || b != 0 {
				t.Errorf("P23.7: idle, by %d, %d", a, b)
			}
		}
	}
}

// TestEnterWipes: P23.3; the words are wiped by Enter, not ahead of it nor behind the run; the counters stay.
func TestEnterWipes(t *testing.T) {
	w, v := in(t, worker.Took)
	enters(t, w, api.OK, 3, 7, module(t, "load r0 9, set r1 9, store r1 9, call 5, load r2 15, add r0 r0 r2, exit r0"))
	v.mode, v.version, v.prog, v.words = worker.Running, 3, 7, [16]uint64{}
	wants(t, "entered", w, v)
	want := []api.Act{{Kind: api.ActRan}, {Kind: api.ActRan, Pc: 1}, {Kind: api.ActRan, Pc: 2}, {Kind: api.ActRan, Pc: 3, Val: 210}, {Kind: api.ActRan, Pc: 4}, {Kind: api.ActRan, Pc: 5}, {Kind: api.ActEnd, Pc: 6, Val: 210}}
	if acts := ends(t, w); !slices.Equal(acts, want) {
		t.Errorf("P23.5: %+v, want %+v", acts, want)
	}
	v = view{words: [16]uint64{9: 9}, counts: v.counts, tallies: v.tallies}
	v.counts[9]++
	v.tallies[2] = stats.Add(v.tallies[2], api.Tally{Runs: 1, Steps: 7, Sum: 210})
	wants(t, "ended", w, v)
	takes(t, w, api.OK, 1, given())
	skips(t, w, api.OK)
	v.tallies[1].Missed++
	wants(t, "skipped", w, v)
}

// TestSkip: P23.4; at each hook with all events: one is missed there, the worker is idle, all else stays, the words too.
func TestSkip(t *testing.T) {
	w, v := in(t, worker.Idle)
	for hook := range 4 {
		for _, q := range queues() {
			takes(t, w, api.OK, hook, q)
			skips(t, w, api.OK)
			v.tallies[hook].Missed++
			wants(t, "skipped", w, v)
			skips(t, w, api.ErrNone)
			wants(t, "skipped twice", w, v)
		}
	}
}

// TestSkipModes: P23.4; ErrNone, unless it took an event and hasn't entered, and nothing changes.
func TestSkipModes(t *testing.T) {
	for _, mode := range modes() {
		w, v := in(t, mode)
		if mode == worker.Took {
			skips(t, w, api.OK)
			v.mode, v.hook, v.event = worker.Idle, 0, api.Queued{}
			v.tallies[2].Missed++
		}
		for range 3 {
			skips(t, w, api.ErrNone)
			wants(t, fmt.Sprintf("mode %d", mode), w, v)
		}
	}
}

// TestStepModes: P23.5; where it doesn't run, the zero Act and false, and nothing changes.
func TestStepModes(t *testing.T) {
	for _, mode := range modes() {
		w, v := in(t, mode)
		if mode == worker.Running {
			steps(t, w, api.Act{Kind: api.ActCall, Pc: 3, Item: api.Item{Map: 2, Op: api.MapAdd, Key: 5, Val: 40}})
			v.mode = worker.Waiting
		}
		for range 3 {
			stays(t, w)
			wants(t, fmt.Sprintf("mode %d", mode), w, v)
		}
	}
}

// kept is the view of a run's end: one run more at a hook, of so many steps and calls, with that result.
func (v view) kept(hook int, steps, calls, result uint64) view {
	v.mode, v.hook, v.event, v.version, v.prog = worker.Idle, 0, api.Queued{}, 0, 0
	v.tallies[hook] = stats.Add(v.tallies[hook], api.Tally{Runs: 1, Steps: steps, Calls: calls, Sum: result})
	return v
}

// program is a program, an event, what its calls are answered, and what its run is counted as.
type program struct {
	name, text           string
	event                api.Event
	rs                   []api.Res
	steps, calls, result uint64
}

// programs are of all kinds that a worker could take for one another.
func programs() []program {
	many := make([]api.Res, 60)
	for k := range many {
		many[k].Val = uint64(1000 + k)
	}
	return []program{
		{"at once", "set r0 7, exit r0", api.Event{}, nil, 2, 0, 7},
		{"nought", "set r0 0, exit r0", api.Event{}, nil, 2, 0, 0},
		{"the greatest result", "set r0 -1, exit r0", api.Event{}, nil, 2, 0, most},
		{"the event's result", "field r6 1, exit r6", api.Event{A: 1, B: 1 << 63}, nil, 2, 0, 1 << 63},
		{"the greatest cost", "set r0 5, set r1 1, loop r1 1 126, exit r0", api.Event{}, nil, 256, 0, 5},
		{"the greatest cost of calls", "set r5 3, set r3 1, set r2 8, map r1 0, call 4, loop r3 2 83, exit r5", api.Event{}, nil, 256, 84, 3},
		{"the most instructions", "set r0 5" + strings.Repeat(", add r0 r0 1", 62) + ", exit r0", api.Event{}, nil, 64, 0, 67},
		{"one call", asking, api.Event{A: 3}, []api.Res{{Found: true, Val: 8}}, 6, 1, 9},
		{"each call", "map r1 1, set r2 8, set r3 9, call 0, call 1, call 2, call 3, call 4, exit r0", api.Event{}, make([]api.Res, 5), 9, 5, 0},
		{"many calls", "map r1 0, set r2 1, set r3 1" + strings.Repeat(", call 4", 60) + ", exit r0", api.Event{}, many, 64, 60, 1059},
		{"a call passed over", "field r2 0, map r1 0, jeq r2 0 1, call 0, set r0 4, exit r0", api.Event{}, nil, 5, 0, 4},
		{"a call not passed over", "field r2 0, map r1 0, jeq r2 0 1, call 0, set r0 4, exit r0", api.Event{A: 1}, nil, 6, 1, 4},
		{"marks", "set r1 15, call 5, call 5, call 5, exit r0", api.Event{}, nil, 5, 0, 3},
		{"notes", "set r1 9, call 6, call 6, exit r1", api.Event{}, nil, 4, 0, 9},
		{"a mark, a note and a call", "set r1 0, call 5, call 6, map r1 0, set r2 1, call 1, exit r0", api.Event{}, []api.Res{{Found: true, Val: 77}}, 7, 1, 1},
		{"words", "field r1 0, store r1 15, load r2 15, store r2 0, load r3 0, exit r3", api.Event{A: 1234}, nil, 6, 0, 1234},
		{"words that weren't written", "load r1 0, load r2 15, or r1 r1 r2, exit r1", api.Event{}, nil, 4, 0, 0},
	}
}

// TestPrograms: P23.5; each at each hook on a new worker: the machine's acts, and then the tally of that hook alone.
func TestPrograms(t *testing.T) {
	for _, p := range programs() {
		m := module(t, p.text)
		s := scratch.New()
		want := alone(t, m, p.event, s, p.rs)
		for hook := range 4 {
			w := worker.New()
			q := api.Queued{N: 9, Event: p.event}
			takes(t, w, api.OK, hook, q)
			wants(t, p.name+" took", w, view{mode: worker.Took, hook: hook, event: q})
			enters(t, w, api.OK, 5, 6, m)
			wants(t, p.name+" entered", w, view{mode: worker.Running, hook: hook, event: q, version: 5, prog: 6})
			if acts := ends(t, w, p.rs...); !slices.Equal(acts, want) {
				t.Errorf("P23.5: %s: %+v, want %+v", p.name, acts, want)
			}
			v := view{}.kept(hook, p.steps, p.calls, p.result)
			for k := range 16 {
				v.words[k], _ = s.Load(k)
				v.counts[k], _ = s.Count(k)
			}
			wants(t, p.name+" ended", w, v)
		}
	}
}

// alone is what layer 11's machine tells by itself, on a scratch.
func alone(t *testing.T, m api.Module, e api.Event, s *scratch.Scratch, rs []api.Res) []api.Act {
	t.Helper()
	machine, wrong := engine.New(m, e, s)
	if wrong != api.OK {
		t.Fatalf("%v: %v", m, wrong)
	}
	var acts []api.Act
	for {
		act := machine.Step()
		acts = append(acts, act)
		if act.Kind == api.ActEnd {
			return acts
		}
		if act.Kind == api.ActCall {
			r := api.Res{}
			if len(rs) > 0 {
				r, rs = rs[0], rs[1:]
			}
			machine.Answer(r)
		}
	}
}

// TestRunBehindRun: P23.3, P23.5; all programs one behind the other on one worker, and once more backwards: what is counted in one run isn't in the next; the words are wiped, the counters kept.
func TestRunBehindRun(t *testing.T) {
	ps := programs()
	back := programs()
	slices.Reverse(back)
	w, s, v := worker.New(), scratch.New(), view{}
	for at, p := range slices.Concat(ps, back, ps) {
		hook := at % 4
		takes(t, w, api.OK, hook, api.Queued{N: at, Event: p.event})
		wants(t, p.name+" took", w, view{worker.Took, hook, api.Queued{N: at, Event: p.event}, 0, 0, v.words, v.counts, v.tallies})
		m := module(t, p.text)
		enters(t, w, api.OK, at+1, at+2, m)
		wants(t, p.name+" entered", w, view{worker.Running, hook, api.Queued{N: at, Event: p.event}, at + 1, at + 2, [16]uint64{}, v.counts, v.tallies})
		want := alone(t, m, p.event, s, p.rs)
		if acts := ends(t, w, p.rs...); !slices.Equal(acts, want) {
			t.Errorf("P23.5: %s: %+v, want %+v", p.name, acts, want)
		}
		v = v.kept(hook, p.steps, p.calls, want[len(want)-1].Val)
		for k := range 16 {
			v.words[k], _ = s.Load(k)
			v.counts[k], _ = s.Count(k)
		}
		wants(t, p.name+" ended", w, v)
	}
}

// TestWordsOfTwoRuns: P23.3; what a run stored the next one doesn't load, what it marked the next one goes on from.
func TestWordsOfTwoRuns(t *testing.T) {
	w := worker.New()
	m := module(t, "load r0 4, set r1 6, store r1 4, call 5, load r2 4, mul r0 r0 10, add r0 r0 r2, exit r0")
	for round := range uint64(5) {
		takes(t, w, api.OK, 0, given())
		enters(t, w, api.OK, 1, 1, m)
		acts := ends(t, w)
		if got, want := acts[3], (api.Act{Kind: api.ActRan, Pc: 3, Val: round + 1}); got != want {
			t.Errorf("P23.3: round %d: marked by %+v", round, got)
		}
		if got, want := acts[7], (api.Act{Kind: api.ActEnd, Pc: 7, Val: 10*(round+1) + 6}); got != want {
			t.Errorf("P23.5: round %d: ended by %+v, want %+v", round, got, want)
		}
	}
	if n, _ := w.Count(6); n != 5 {
		t.Errorf("P23.3: the counter is %d", n)
	}
	if n, _ := w.Load(4); n != 6 {
		t.Errorf("P23.3: the word is %d", n)
	}
}

// TestTalliesGoAround: P23.5; tallies at the greatest numbers go on at 0, each field by itself, at its hook alone.
func TestTalliesGoAround(t *testing.T) {
	for hook := range 4 {
		for _, p := range programs() {
			w, v := in(t, worker.Idle)
			w.Ran(hook, most-v.tallies[hook].Steps, most-v.tallies[hook].Calls, most-v.tallies[hook].Sum)
			v.tallies[hook] = api.Tally{Runs: 2, Missed: 2, Steps: most, Calls: most, Sum: most}
			takes(t, w, api.OK, hook, api.Queued{N: 1, Event: p.event})
			wants(t, "took", w, view{worker.Took, hook, api.Queued{N: 1, Event: p.event}, 0, 0, v.words, v.counts, v.tallies})
			enters(t, w, api.OK, 1, 1, module(t, p.text))
			acts := ends(t, w, p.rs...)
			v.tallies[hook] = api.Tally{Runs: 3, Missed: 2, Steps: p.steps - 1, Calls: p.calls - 1, Sum: acts[len(acts)-1].Val - 1}
			if got := glance(t, w); got.tallies != v.tallies {
				t.Errorf("P23.5: %s: %v, want %v", p.name, got.tallies, v.tallies)
			}
		}
	}
}

// TestTalliesOfManyRuns: P23.5; runs and misses of all hooks in turns, with results whose sum goes around.
func TestTalliesOfManyRuns(t *testing.T) {
	w, v := worker.New(), view{}
	for round := range 40 {
		hook, a := round*3%4, most-uint64(round*round)
		takes(t, w, api.OK, hook, api.Queued{N: round, Event: api.Event{A: a}})
		if round%5 == 4 {
			skips(t, w, api.OK)
			v.tallies[hook].Missed++
		} else {
			enters(t, w, api.OK, round, round, module(t, "field r0 0, exit r0"))
			ends(t, w)
			v = v.kept(hook, 2, 0, a)
		}
		wants(t, "a run more", w, v)
	}
	// The rounds of hook 0 are 0, 8, 12, 16, 20, 28, 32 and 36, whose squares are 3968 together; 4 and 24 were skipped.
	if tally, e := w.Of(0); tally != (api.Tally{Runs: 8, Missed: 2, Steps: 16, Sum: most - 3968 - 7}) || e != api.OK {
		t.Errorf("P23.5: hook 0: %v, %v", tally, e)
	}
}

// TestCall: P23.5, P23.6; each helper on a map: it waits, has and runs what it did, and nothing is counted ahead of its end.
func TestCall(t *testing.T) {
	for h := range 5 {
		w, v := in(t, worker.Took)
		enters(t, w, api.OK, 3, 7, module(t, fmt.Sprintf("map r1 1, field r2 0, field r3 1, call %d, exit r0", h)))
		v.mode, v.version, v.prog, v.words = worker.Running, 3, 7, [16]uint64{}
		for at := range 3 {
			steps(t, w, api.Act{Kind: api.ActRan, Pc: at})
			wants(t, "ahead of a call", w, v)
		}
		item := api.Item{Map: 0, Op: api.MapOp(h), Key: 5}
		if h == api.HelpPut || h == api.HelpAdd {
			item.Val = 6
		}
		steps(t, w, api.Act{Kind: api.ActCall, Pc: 3, Item: item})
		v.mode = worker.Waiting
		wants(t, "behind a call", w, v)
		answers(t, w, api.OK, api.Res{})
		v.mode = worker.Running
		wants(t, "answered", w, v)
		answers(t, w, api.ErrNone, api.Res{Found: true, Val: 5})
		wants(t, "answered twice", w, v)
		result := uint64(0)
		if h == api.HelpPut {
			result = 1
		}
		steps(t, w, api.Act{Kind: api.ActEnd, Pc: 4, Val: result})
		wants(t, "ended", w, v.kept(2, 5, 1, result))
	}
}

// results are answers with each field at 0, at the greatest number, and at others, one by one and all at once.
func results() []api.Res {
	out := []api.Res{
		{}, {Found: true}, {Val: 1}, {Val: most}, {Out: true}, {OutKey: most}, {OutVal: most}, {Found: true, Val: 9},
		{E: math.MaxInt, Found: true, Val: most, Out: true, OutKey: most, OutVal: most},
		{E: api.OK, Found: true, Val: most, Out: true, OutKey: most, OutVal: most},
	}
	for _, e := range []api.Errno{api.ErrNil, api.ErrArg, api.ErrFull, api.ErrNone, api.ErrBusy, -1, math.MaxInt, math.MinInt} {
		out = append(out, api.Res{E: e}, api.Res{E: e, Found: true, Val: 3})
	}
	return out
}

// TestAnswer: P23.6; each helper with each answer: the machine has it, and the worker runs.
func TestAnswer(t *testing.T) {
	for h := range 5 {
		for _, r := range results() {
			found, put := uint64(0), uint64(0)
			if r.Found {
				found = 1
			}
			if r.E == api.OK {
				put = 1
			}
			want := []uint64{r.Val, found, put, found, r.Val}[h]
			w, v := in(t, worker.Took)
			enters(t, w, api.OK, 3, 7, module(t, fmt.Sprintf("map r1 1, field r2 0, field r3 1, call %d, store r0 5, exit r0", h)))
			for range 4 {
				w.Step()
			}
			answers(t, w, api.OK, r)
			v.mode, v.version, v.prog, v.words = worker.Running, 3, 7, [16]uint64{}
			wants(t, "answered", w, v)
			steps(t, w, api.Act{Kind: api.ActRan, Pc: 4})
			v.words[5] = want
			wants(t, "stored", w, v)
			steps(t, w, api.Act{Kind: api.ActEnd, Pc: 5, Val: want})
			wants(t, "ended", w, v.kept(2, 6, 1, want))
		}
	}
}

// TestAnswerModes: P23.6; ErrNone, unless it waits, with each answer, and nothing changes; a machine that runs on has nothing of it.
func TestAnswerModes(t *testing.T) {
	for _, mode := range modes() {
		w, v := in(t, mode)
		if mode == worker.Waiting {
			answers(t, w, api.OK, api.Res{Val: 11})
			v.mode = worker.Running
		}
		for _, r := range results() {
			answers(t, w, api.ErrNone, r)
			wants(t, fmt.Sprintf("mode %d", mode), w, v)
		}
		if mode == worker.Waiting {
			steps(t, w, api.Act{Kind: api.ActRan, Pc: 4})
			steps(t, w, api.Act{Kind: api.ActEnd, Pc: 5, Val: 12})
		}
		if mode == worker.Running {
			steps(t, w, api.Act{Kind: api.ActCall, Pc: 3, Item: api.Item{Map: 2, Op: api.MapAdd, Key: 5, Val: 40}})
		}
	}
}

// TestOneLife: P23.7; Mode, Has and Runs behind each call of a life, taken and refused.
func TestOneLife(t *testing.T) {
	w := worker.New()
	q, other := api.Queued{N: -3, Event: api.Event{A: 1, B: 2}}, api.Queued{N: 8, Event: api.Event{A: 9}}
	is := func(mode worker.Mode, hook int, q api.Queued, version, prog int) {
		t.Helper()
		h, p := w.Has()
		a, b := w.Runs()
		if w.Mode() != mode || h != hook || p != q || a != version || b != prog {
			t.Errorf("P23.7: mode %d, %d %v, %d %d; want %d, %d %v, %d %d", w.Mode(), h, p, a, b, mode, hook, q, version, prog)
		}
	}
	is(worker.Idle, 0, api.Queued{}, 0, 0)
	takes(t, w, api.ErrArg, 4, q)
	is(worker.Idle, 0, api.Queued{}, 0, 0)
	takes(t, w, api.OK, 3, q)
	is(worker.Took, 3, q, 0, 0)
	takes(t, w, api.ErrBusy, 1, other)
	enters(t, w, api.ErrType, 8, 9, module(t, "exit r0"))
	is(worker.Took, 3, q, 0, 0)
	enters(t, w, api.OK, -8, -9, module(t, "map r1 0, set r2 1, call 0, exit r0"))
	is(worker.Running, 3, q, -8, -9)
	enters(t, w, api.ErrNone, 1, 2, module(t, asking))
	skips(t, w, api.ErrNone)
	is(worker.Running, 3, q, -8, -9)
	w.Step()
	is(worker.Running, 3, q, -8, -9)
	w.Step()
	is(worker.Running, 3, q, -8, -9)
	w.Step()
	is(worker.Waiting, 3, q, -8, -9)
	stays(t, w)
	enters(t, w, api.ErrNone, 1, 2, module(t, asking))
	skips(t, w, api.ErrNone)
	takes(t, w, api.ErrBusy, 1, other)
	is(worker.Waiting, 3, q, -8, -9)
	answers(t, w, api.OK, api.Res{})
	is(worker.Running, 3, q, -8, -9)
	w.Step()
	is(worker.Idle, 0, api.Queued{}, 0, 0)
	takes(t, w, api.OK, 1, other)
	is(worker.Took, 1, other, 0, 0)
	skips(t, w, api.OK)
	is(worker.Idle, 0, api.Queued{}, 0, 0)
}

// TestOwnScratch: P23.3; the machine uses the worker's scratch, what is written there between two steps is seen by it, and what it writes is seen there.
func TestOwnScratch(t *testing.T) {
	w := worker.New()
	own := w.Scratch
	takes(t, w, api.OK, 0, given())
	enters(t, w, api.OK, 1, 1, module(t, "load r0 3, set r1 2, call 5, store r0 4, load r2 3, add r0 r0 r2, exit r0"))
	w.Store(3, 40)
	steps(t, w, api.Act{Kind: api.ActRan})
	w.Raise(0, 0, 10)
	steps(t, w, api.Act{Kind: api.ActRan, Pc: 1})
	steps(t, w, api.Act{Kind: api.ActRan, Pc: 2, Val: 11})
	steps(t, w, api.Act{Kind: api.ActRan, Pc: 3})
	if n, e := own.Load(4); n != 11 || e != api.OK || w.Scratch != own {
		t.Errorf("P23.3: word 4 is %d, %v", n, e)
	}
	own.Wipe()
	steps(t, w, api.Act{Kind: api.ActRan, Pc: 4})
	if n, e := w.Mark(2); n != 12 || e != api.OK {
		t.Errorf("P23.3: counter 2 is %d, %v", n, e)
	}
	steps(t, w, api.Act{Kind: api.ActRan, Pc: 5})
	steps(t, w, api.Act{Kind: api.ActEnd, Pc: 6, Val: 11})
	if got := scratch.Totals(w.Scratch); !slices.Equal(got, append([]uint64{0, 0, 12}, make([]uint64, 13)...)) {
		t.Errorf("P23.3: the counters are %d", got)
	}
}

// TestPromoted: a worker has the methods of its parts, with their errors, in each mode, and they are those of its parts.
func TestPromoted(t *testing.T) {
	for _, mode := range modes() {
		w, v := in(t, mode)
		for _, at := range []int{-1, 16, math.MaxInt, math.MinInt} {
			if n, e := w.Load(at); n != 0 || e != api.ErrBound {
				t.Errorf("Load(%d): %d, %v", at, n, e)
			}
			if n, e := w.Mark(at); n != 0 || e != api.ErrBound {
				t.Errorf("Mark(%d): %d, %v", at, n, e)
			}
			if n, e := w.Count(at); n != 0 || e != api.ErrBound {
				t.Errorf("Count(%d): %d, %v", at, n, e)
			}
			if e := w.Store(at, 1); e != api.ErrBound {
				t.Errorf("Store(%d, 1): %v", at, e)
			}
		}
		for _, hook := range noHooks() {
			if tally, e := w.Of(hook); tally != (api.Tally{}) || e != api.ErrArg {
				t.Errorf("Of(%d): %v, %v", hook, tally, e)
			}
			if e, f := w.Ran(hook, 1, 1, 1), w.Missed(0, hook); e != api.ErrArg || f != api.ErrArg {
				t.Errorf("Ran, Missed at %d: %v, %v", hook, e, f)
			}
		}
		w.Raise()
		w.Missed()
		wants(t, "behind what is refused", w, v)
		if got := stats.Merge(w.Stats); !slices.Equal(got, v.tallies[:]) {
			t.Errorf("Merge: %v", got)
		}
		w.Wipe()
		w.Stats.Ran(1, 2, 3, 4)
		w.Scratch.Raise(5)
		v.words = [16]uint64{}
		v.counts[0] += 5
		v.tallies[1] = stats.Add(v.tallies[1], api.Tally{Runs: 1, Steps: 2, Calls: 3, Sum: 4})
		wants(t, "through its parts", w, v)
	}
}

// spare is a module as m, with spare room of which nothing is handed on.
func spare(m api.Module) api.Module {
	maps := append(slices.Clone(m.Maps), 55, 66)
	code := append(slices.Clone(m.Code), api.Inst{Op: 77, D: 7}, api.Inst{Op: 78, Imm: 8})
	return api.Module{Maps: maps[:len(m.Maps)], Code: code[:len(m.Code)]}
}

// untouched tells whether what spare made is as it was, its spare room too.
func untouched(handed, m api.Module) bool {
	maps, code := handed.Maps[:len(handed.Maps)+2], handed.Code[:len(handed.Code)+2]
	return slices.Equal(maps, append(slices.Clone(m.Maps), 55, 66)) &&
		slices.Equal(code, append(slices.Clone(m.Code), api.Inst{Op: 77, D: 7}, api.Inst{Op: 78, Imm: 8}))
}

// spoil writes over a module, its spare room too.
func spoil(m api.Module) {
	maps, code := m.Maps[:cap(m.Maps)], m.Code[:cap(m.Code)]
	for k := range maps {
		maps[k] = 3
	}
	for k := range code {
		code[k] = api.Inst{Op: api.OpExit, A: 3}
	}
}

// TestModuleIsNotKept: P23.8; a module that is entered stays as it was, and may be written over behind any step with nothing changed.
func TestModuleIsNotKept(t *testing.T) {
	for _, p := range programs() {
		m := module(t, p.text)
		want := alone(t, m, p.event, scratch.New(), p.rs)
		for when := range min(len(want), 70) {
			w, handed, left := worker.New(), spare(m), p.rs
			takes(t, w, api.OK, 1, api.Queued{Event: p.event})
			enters(t, w, api.OK, 1, 1, handed)
			for at, act := range want {
				if !untouched(handed, m) && at <= when {
					t.Fatalf("P23.8: %s: the module is changed behind %d steps", p.name, at)
				}
				if at == when {
					spoil(handed)
				}
				steps(t, w, act)
				if act.Kind == api.ActCall {
					r := api.Res{}
					if len(left) > 0 {
						r, left = left[0], left[1:]
					}
					answers(t, w, api.OK, r)
				}
			}
		}
	}
}

// TestRefusedModuleIsNotKept: P23.8; likewise one that is refused, by the judge or as nothing was taken.
func TestRefusedModuleIsNotKept(t *testing.T) {
	for _, mode := range modes() {
		for _, ms := range wrong(t) {
			for _, m := range ms {
				w, v := in(t, mode)
				handed := spare(m)
				if e := w.Enter(1, 2, handed); e == api.OK {
					t.Errorf("P23.3: mode %d, %v is entered", mode, m)
				}
				if !untouched(handed, m) {
					t.Errorf("P23.8: mode %d, %v has become %v", mode, m, handed)
				}
				spoil(handed)
				wants(t, "behind a refused module", w, v)
			}
		}
	}
}

// TestTwoWorkers: P23.8; whatever one does, the other stays as it was, and their parts are added up apart.
func TestTwoWorkers(t *testing.T) {
	for _, mode := range modes() {
		for _, other := range modes() {
			a, v := in(t, mode)
			b, _ := in(t, other)
			m := module(t, asking)
			switch other {
			case worker.Idle:
				takes(t, b, api.OK, 1, api.Queued{N: 8})
				enters(t, b, api.OK, 9, 9, m)
			case worker.Took:
				enters(t, b, api.OK, 9, 9, m)
			case worker.Waiting:
				answers(t, b, api.OK, api.Res{Val: 70})
			}
			wants(t, "beside another", a, v)
			ends(t, b)
			wants(t, "beside another's end", a, v)
			b.Wipe()
			b.Raise(1, 2, 3)
			b.Missed(0, 1, 2, 3)
			wants(t, "beside another's parts", a, v)
		}
	}
	a, b := worker.New(), worker.New()
	for hook, w := range []*worker.Worker{a, b, a} {
		takes(t, w, api.OK, hook, given())
		enters(t, w, api.OK, 1, 1, module(t, "set r1 3, call 5, exit r0"))
		ends(t, w)
	}
	if got := scratch.Totals(a.Scratch, b.Scratch); got[3] != 3 {
		t.Errorf("the counters together are %d", got)
	}
	if got, want := stats.Merge(a.Stats, b.Stats), []api.Tally{{Runs: 1, Steps: 3, Sum: 1}, {Runs: 1, Steps: 3, Sum: 1}, {Runs: 1, Steps: 3, Sum: 2}, {}}; !slices.Equal(got, want) {
		t.Errorf("the tallies together are %v", got)
	}
}

// TestOneModuleForTwo: P23.8; two workers that were handed one module, at unlike places of it, on unlike events.
func TestOneModuleForTwo(t *testing.T) {
	m := module(t, "field r4 0, store r4 1, map r1 0, set r2 1, call 0, load r5 1, add r0 r0 r5, exit r0")
	a, b := worker.New(), worker.New()
	takes(t, a, api.OK, 0, api.Queued{Event: api.Event{A: 100}})
	takes(t, b, api.OK, 0, api.Queued{Event: api.Event{A: 200}})
	enters(t, a, api.OK, 1, 1, m)
	for range 5 {
		a.Step()
	}
	enters(t, b, api.OK, 2, 1, m)
	for range 5 {
		b.Step()
	}
	answers(t, b, api.OK, api.Res{Val: 2})
	if a.Mode() != worker.Waiting || b.Mode() != worker.Running {
		t.Errorf("P23.8: modes %d and %d", a.Mode(), b.Mode())
	}
	answers(t, a, api.OK, api.Res{Val: 1})
	for _, c := range []struct {
		w    *worker.Worker
		want uint64
	}{{b, 202}, {a, 101}} {
		acts := ends(t, c.w)
		if last := acts[len(acts)-1]; len(acts) != 3 || last.Val != c.want {
			t.Errorf("P23.8: %+v, want %d", acts, c.want)
		}
	}
}
