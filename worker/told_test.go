package worker_test

import (
	"fmt"
	"math/rand"
	"slices"
	"strings"
	"testing"

	"tappet/api"
	"tappet/engine"
	"tappet/judge"
	"tappet/lines"
	"tappet/scratch"
	"tappet/stats"
	"tappet/worker"
)

// what is which call a turn makes.
type what int

const (
	take what = iota
	enter
	skip
	step
	reply
	load
	store
	wipe
	mark
	count
	raise
	ran
	missed
	of
)

// turn is a call and its arguments; at stands for a hook, a word or a slot.
type turn struct {
	what          what
	at            int
	event         api.Queued
	version, prog int
	module        api.Module
	res           api.Res
	ns            []uint64
	hooks         []int
}

// answer is what a turn was answered, and what can be read of the worker behind it.
type answer struct {
	e     api.Errno
	act   api.Act
	ok    bool
	n     uint64
	tally api.Tally
	view  view
}

// deed is a turn that was taken; of a step, what was told.
type deed struct {
	turn
	act api.Act
}

// told is a worker told by what was done with it: what it does, has and runs is looked up there, and its tallies are counted over all of it. Beside that stand a scratch of its own, and the machine of the newest run on it.
type told struct {
	deeds   []deed
	scratch *scratch.Scratch
	machine *engine.Machine
}

// last is the newest deed of these kinds.
func (d *told) last(whats ...what) (deed, bool) {
	for k := len(d.deeds) - 1; k >= 0; k-- {
		if slices.Contains(whats, d.deeds[k].what) {
			return d.deeds[k], true
		}
	}
	return deed{}, false
}

func (d *told) mode() worker.Mode {
	newest, ok := d.last(take, enter, skip, step, reply)
	switch {
	case !ok, newest.what == skip, newest.what == step && newest.act.Kind == 4:
		return 0
	case newest.what == take:
		return 1
	case newest.what == step && newest.act.Kind == 2:
		return 3
	}
	return 2
}

// tallies are what layer 20's Stats tell, if all runs and misses are told to them in order.
func (d *told) tallies() []api.Tally {
	s := stats.New()
	var hook int
	var steps, calls uint64
	for _, one := range d.deeds {
		switch one.what {
		case take:
			hook, steps, calls = one.at, 0, 0
		case skip:
			s.Missed(hook)
		case step:
			steps++
			if one.act.Kind == 2 {
				calls++
			}
			if one.act.Kind == 4 {
				s.Ran(hook, steps, calls, one.act.Val)
			}
		case ran:
			s.Ran(one.at, one.ns[0], one.ns[1], one.ns[2])
		case missed:
			s.Missed(one.hooks...)
		}
	}
	return stats.Merge(s)
}

func (d *told) view() view {
	v := view{mode: d.mode(), tallies: [4]api.Tally(d.tallies())}
	if v.mode != 0 {
		took, _ := d.last(take)
		v.hook, v.event = took.at, took.event
	}
	if v.mode > 1 {
		entered, _ := d.last(enter)
		v.version, v.prog = entered.version, entered.prog
	}
	for k := range 16 {
		v.words[k], _ = d.scratch.Load(k)
		v.counts[k], _ = d.scratch.Count(k)
	}
	return v
}

// tell is what play must answer.
func (d *told) tell(s turn) answer {
	var a answer
	switch s.what {
	case take, enter, skip, reply:
		if a.e = d.refuses(s); a.e == api.OK {
			d.does(s)
		}
	case step:
		if a.ok = d.mode() == 2; a.ok {
			a.act = d.machine.Step()
			d.deeds = append(d.deeds, deed{s, a.act})
		}
	case load:
		a.n, a.e = d.scratch.Load(s.at)
	case store:
		a.e = d.scratch.Store(s.at, s.ns[0])
	case wipe:
		d.scratch.Wipe()
	case mark:
		a.n, a.e = d.scratch.Mark(s.at)
	case count:
		a.n, a.e = d.scratch.Count(s.at)
	case raise:
		d.scratch.Raise(s.ns...)
	case ran:
		a.e = d.counts(s, s.at)
	case missed:
		a.e = d.counts(s, s.hooks...)
	case of:
		if a.e = none(s.at); a.e == api.OK {
			a.tally = d.tallies()[s.at]
		}
	}
	a.view = d.view()
	return a
}

// none is ErrArg, if one of these is no hook.
func none(hooks ...int) api.Errno {
	for _, hook := range hooks {
		if hook < 0 || hook > 3 {
			return 2
		}
	}
	return 0
}

// counts puts what the Stats are told to the deeds, unless they refuse it.
func (d *told) counts(s turn, hooks ...int) api.Errno {
	e := none(hooks...)
	if e == api.OK {
		d.deeds = append(d.deeds, deed{turn: s})
	}
	return e
}

// refuses is the error of P23.2, P23.3, P23.4 and P23.6.
func (d *told) refuses(s turn) api.Errno {
	mode := d.mode()
	switch s.what {
	case take:
		if e := none(s.at); e != api.OK {
			return e
		}
		if mode != 0 {
			return 42
		}
	case enter:
		if mode != 1 {
			return 41
		}
		_, e := judge.Judge(s.module)
		return e
	case skip:
		if mode != 1 {
			return 41
		}
	case reply:
		if mode != 3 {
			return 41
		}
	}
	return 0
}

// does is what becomes of the machine by a turn that isn't refused.
func (d *told) does(s turn) {
	if s.what == enter {
		took, _ := d.last(take)
		d.machine, _ = engine.New(s.module, took.event.Event, d.scratch)
	}
	if s.what == reply {
		d.machine.Answer(s.res)
	}
	d.deeds = append(d.deeds, deed{turn: s})
}

// play takes a turn with a worker. Lists that it hands over are copies, which must stay and are written over behind the call.
func play(t *testing.T, w *worker.Worker, s turn) answer {
	t.Helper()
	var a answer
	switch s.what {
	case take:
		a.e = w.Take(s.at, s.event)
	case enter:
		handed := spare(s.module)
		a.e = w.Enter(s.version, s.prog, handed)
		if !untouched(handed, s.module) {
			t.Fatalf("P23.8: %v has become %v", s.module, handed)
		}
		spoil(handed)
	case skip:
		a.e = w.Skip()
	case step:
		a.act, a.ok = w.Step()
	case reply:
		a.e = w.Answer(s.res)
	case load:
		a.n, a.e = w.Load(s.at)
	case store:
		a.e = w.Store(s.at, s.ns[0])
	case wipe:
		w.Wipe()
	case mark:
		a.n, a.e = w.Mark(s.at)
	case count:
		a.n, a.e = w.Count(s.at)
	case raise:
		w.Raise(s.ns...)
	case ran:
		a.e = w.Ran(s.at, s.ns[0], s.ns[1], s.ns[2])
	case missed:
		a.e = w.Missed(s.hooks...)
	case of:
		a.tally, a.e = w.Of(s.at)
	}
	a.view = glance(t, w)
	return a
}

// met is what was met in scripts, so that a test can tell whether it saw enough.
type met struct {
	ended, waited, skipped, busy, none int
	refused                            map[api.Errno]int
}

// see counts a turn and its answer.
func (m *met) see(s turn, a answer) {
	switch {
	case a.act.Kind == api.ActEnd:
		m.ended++
	case a.act.Kind == api.ActCall:
		m.waited++
	case s.what == skip && a.e == api.OK:
		m.skipped++
	case a.e == api.ErrBusy:
		m.busy++
	case a.e == api.ErrNone:
		m.none++
	case s.what == enter && a.e != api.OK:
		if m.refused == nil {
			m.refused = map[api.Errno]int{}
		}
		m.refused[a.e]++
	}
}

// agree plays a script on a new worker, held call by call against what is told of it.
func agree(t *testing.T, turns []turn, seen *met) {
	t.Helper()
	w, d := worker.New(), &told{scratch: scratch.New()}
	for at, s := range turns {
		got, want := play(t, w, s), d.tell(s)
		if got != want {
			t.Fatalf("turn %d, %+v: %+v, want %+v", at, s, got, want)
		}
		seen.see(s, got)
	}
}

// source is where the choices of a script come from.
type source func(below int) int

// drawn is a source of random choices.
func drawn(seed int64) source {
	return rand.New(rand.NewSource(seed)).Intn
}

// number is an end, a small one or any.
func (c source) number() uint64 {
	switch c(3) {
	case 0:
		return []uint64{0, 1, 15, 16, 1<<63 - 1, 1 << 63, most - 1, most}[c(8)]
	case 1:
		return uint64(c(20))
	}
	var n uint64
	for range 8 {
		n = n<<8 | uint64(c(256))
	}
	return n
}

// hook is one mostly, or a number of none.
func (c source) hook() int {
	if c(12) == 0 {
		return noHooks()[c(len(noHooks()))]
	}
	return c(4)
}

// small is a word's or a slot's number mostly, or one of none.
func (c source) small() int {
	if c(8) == 0 {
		return []int{-1, 16, 17, -1 << 63, 1<<63 - 1}[c(5)]
	}
	return c(16)
}

// res is any answer, likely or not.
func (c source) res() api.Res {
	if c(4) == 0 {
		return results()[c(len(results()))]
	}
	return api.Res{E: []api.Errno{api.OK, api.OK, api.ErrFull, api.ErrNone}[c(4)], Found: c(2) == 0, Val: c.number(), Out: c(4) == 0, OutKey: c.number(), OutVal: c.number()}
}

// piece is a piece of a good program, which may stand behind any other: r6 is always a number, and each sets all else that it reads.
func (c source) piece(maps int) string {
	switch c(9) {
	case 0, 1, 2:
		return fmt.Sprintf("field r2 %d, map r1 %d, set r3 %d, call %d, add r6 r6 r0", c(2), c(maps), int64(c.number()), c(5))
	case 3:
		return fmt.Sprintf("set r1 %d, call 5, add r6 r6 r0", c(16))
	case 4:
		return fmt.Sprintf("set r1 %d, call 6", int64(c.number()))
	case 5:
		return fmt.Sprintf("store r6 %d", c(16))
	case 6:
		return fmt.Sprintf("load r5 %d, xor r6 r6 r5", c(16))
	case 7:
		return fmt.Sprintf("field r5 %d, jlt r5 %d 1, mul r6 r6 3", c(2), int64(c.number()))
	}
	m := c(maps)
	return fmt.Sprintf("map r1 %d, set r4 %d, map r1 %d, field r2 0, set r3 %d, call %d, sub r4 r4 1, loop r4 5 %d", m, 1+c(4), m, int64(c.number()), c(5), 1+c(3))
}

// good is a program of a few pieces.
func (c source) good() api.Module {
	m := api.Module{Maps: [][]int{{2}, {3, 1}, {1, 3, 0}, {3, 2, 1, 0}}[c(4)]}
	texts := []string{fmt.Sprintf("field r6 %d", c(2))}
	for range c(7) {
		texts = append(texts, c.piece(len(m.Maps)))
	}
	m.Code, _, _ = lines.Parse(strings.ReplaceAll(strings.Join(append(texts, "exit r6"), ", "), ", ", "\n") + "\n")
	return m
}

// spoilt is a module with one thing about it changed, most likely a wrong one.
func (c source) spoilt(m api.Module) api.Module {
	at := c(len(m.Code))
	switch c(10) {
	case 0:
		m.Maps = [][]int{{4}, {-1}, {1, 1}, {0, 1, 2, 3, 0}}[c(4)]
	case 1:
		m.Maps = nil
	case 2:
		m.Code = nil
	case 3:
		m.Code = slices.Concat(slices.Repeat(m.Code[:1], 64), m.Code)
	case 4:
		m.Code = m.Code[:at]
	case 5:
		m.Code[at].Op = api.Op([]int{-1, 23, c(23), c(23), c(23)}[c(5)])
	case 6:
		m.Code = append([]api.Inst{{Op: api.OpSet, D: 1, B: 8, Imm: 1}, {Op: api.OpLoop, D: 1, A: 1, Imm: 255}}, m.Code...)
	case 7:
		m.Code[at] = []api.Inst{{Op: api.OpJump, D: 63}, {Op: api.OpLoop, D: 1 + c(9), A: 6, Imm: 2}, {Op: api.OpExit, A: 7}}[c(3)]
	case 8:
		m.Code = append([]api.Inst{{Op: api.OpField, D: 1}, {Op: api.OpLoad, D: 2, B: 1}}, m.Code...)
	case 9:
		m.Code = append([]api.Inst{{Op: api.OpJump, D: 1}, {Op: api.OpSet, D: 7}, {Op: api.OpSet, D: 7}, {Op: api.OpLoop, D: 2, A: 7, Imm: 1}}, m.Code...)
	}
	return m
}

// inner is a turn with the scratch or the tallies that a worker embeds.
func (c source) inner() turn {
	s := turn{what: load + what(c(int(of-load)+1))}
	switch s.what {
	case load, store, mark, count:
		s.at, s.ns = c.small(), []uint64{c.number()}
	case raise:
		for range c(18) {
			s.ns = append(s.ns, c.number())
		}
	case ran, of:
		s.at, s.ns = c.hook(), []uint64{c.number(), c.number(), c.number()}
	case missed:
		for range c(4) {
			s.hooks = append(s.hooks, c.hook())
		}
	}
	return s
}

// turn is a call of any kind, mostly a step.
func (c source) turn() turn {
	all := ints()
	switch k := c(100); {
	case k < 10:
		return turn{what: take, at: c.hook(), event: api.Queued{N: all[c(len(all))], Event: api.Event{A: c.number(), B: c.number()}}}
	case k < 22:
		m := c.good()
		if c(3) == 0 {
			m = c.spoilt(m)
		}
		return turn{what: enter, version: all[c(len(all))], prog: all[c(len(all))], module: m}
	case k < 24:
		return turn{what: skip}
	case k < 40:
		return turn{what: reply, res: c.res()}
	case k < 50:
		return c.inner()
	}
	return turn{what: step}
}

// script is a list of turns.
func (c source) script(many int) []turn {
	out := make([]turn, many)
	for at := range out {
		out[at] = c.turn()
	}
	return out
}

// TestTold: P23.2 to P23.8; random scripts.
func TestTold(t *testing.T) {
	c, seen := drawn(23), met{}
	for range 1000 {
		agree(t, c.script(200), &seen)
	}
	if seen.ended < 2000 || seen.waited < 3000 || seen.skipped < 500 || seen.busy < 5000 || seen.none < 20000 {
		t.Errorf("too little was met: %+v", seen)
	}
	for e := range wrong(t) {
		if seen.refused[e] < 5 {
			t.Errorf("modules were refused by %v %d times", e, seen.refused[e])
		}
	}
}

// TestToldLong: P23.2 to P23.8; a few scripts of thousands of turns, so that counters and tallies of many runs come together.
func TestToldLong(t *testing.T) {
	c, seen := drawn(2302), met{}
	for range 8 {
		agree(t, c.script(4000), &seen)
	}
	if seen.ended < 400 {
		t.Errorf("only %d runs ended", seen.ended)
	}
}

// TestGoodModules: what the scripts call good is judged good, mostly, and the pieces may stand behind any other.
func TestGoodModules(t *testing.T) {
	c, good := drawn(9), 0
	for range 1000 {
		if _, e := judge.Judge(c.good()); e == api.OK {
			good++
		}
	}
	if good < 990 {
		t.Errorf("only %d of 1000 are good", good)
	}
}

// everyScript hands on all lists of so many out of these.
func everyScript(calls [][]turn, left int, turns []turn, use func([]turn)) {
	if left == 0 {
		use(turns)
		return
	}
	for _, c := range calls {
		everyScript(calls, left-1, append(turns[:len(turns):len(turns)], c...), use)
	}
}

// TestEveryShortScript: P23.2 to P23.7; all scripts of six out of calls of each kind, taken and refused, where three steps are one of them, so that a script comes to a run's end; and all of five more behind an event that was entered, so that it comes into the next run.
func TestEveryShortScript(t *testing.T) {
	calls := [][]turn{
		{{what: take, at: 1, event: given()}},
		{{what: take, at: 4, event: given()}},
		{{what: enter, version: 3, prog: 7, module: module(t, "map r1 0, field r2 0, call 0, store r0 2, exit r0")}},
		{{what: enter, version: 4, prog: 8, module: module(t, "load r1 2, exit r1")}},
		{{what: enter, version: 5, prog: 9, module: module(t, "exit r0")}},
		{{what: skip}},
		{{what: step}, {what: step}, {what: step}},
		{{what: reply, res: api.Res{Val: 6}}},
	}
	var seen met
	everyScript(calls, 6, []turn{{what: store, at: 2, ns: []uint64{9}}}, func(turns []turn) { agree(t, turns, &seen) })
	everyScript(calls, 5, []turn{{what: store, at: 2, ns: []uint64{9}}, calls[0][0], calls[2][0]}, func(turns []turn) { agree(t, turns, &seen) })
	if seen.ended == 0 || seen.waited == 0 || seen.skipped == 0 || seen.busy == 0 || seen.none == 0 || seen.refused[api.ErrType] == 0 {
		t.Errorf("too little was met: %+v", seen)
	}
}

// TestTurns: P23.8; two workers in turns, in any turns, answer as each alone, on unlike scripts and on one.
func TestTurns(t *testing.T) {
	c := drawn(238)
	for round := range 150 {
		var scripts [2][]turn
		var alone, turns [2][]answer
		for i := range 2 {
			scripts[i] = c.script(120)
			if round%3 == 0 {
				scripts[i] = scripts[0]
			}
			w := worker.New()
			for _, s := range scripts[i] {
				alone[i] = append(alone[i], play(t, w, s))
			}
		}
		ws := [2]*worker.Worker{worker.New(), worker.New()}
		for len(turns[0])+len(turns[1]) < 240 {
			i := c(2)
			if at := len(turns[i]); at < 120 {
				turns[i] = append(turns[i], play(t, ws[i], scripts[i][at]))
			}
		}
		for i := range 2 {
			if !slices.Equal(alone[i], turns[i]) {
				t.Fatalf("P23.8: worker %d in turns: %+v, want %+v", i, turns[i], alone[i])
			}
		}
	}
}

// TestAnswersHangOnCallsAlone: rules 3 and 7; one script on two workers, on one of them with calls between that are refused or only ask: the same answers.
func TestAnswersHangOnCallsAlone(t *testing.T) {
	c := drawn(2303)
	for range 150 {
		a, b := worker.New(), worker.New()
		for _, s := range c.script(150) {
			for range c(4) {
				idle(t, c, b)
			}
			if got, want := play(t, b, s), play(t, a, s); got != want {
				t.Fatalf("%+v: %+v, want %+v", s, got, want)
			}
		}
	}
}

// idle makes a call that changes nothing, which hangs on what the worker does.
func idle(t *testing.T, c source, w *worker.Worker) {
	t.Helper()
	mode, q := w.Mode(), api.Queued{N: 77, Event: api.Event{A: c.number(), B: c.number()}}
	switch c(9) {
	case 0:
		takes(t, w, api.ErrArg, noHooks()[c(len(noHooks()))], q)
	case 1:
		if mode != worker.Idle {
			takes(t, w, api.ErrBusy, c(4), q)
		}
	case 2:
		if mode != worker.Took {
			enters(t, w, api.ErrNone, 5, 5, c.good())
		} else {
			enters(t, w, api.ErrType, 5, 5, module(t, "store r0 3, exit r0"))
		}
	case 3:
		if mode != worker.Took {
			skips(t, w, api.ErrNone)
		}
	case 4:
		if mode != worker.Running {
			stays(t, w)
		}
	case 5:
		if mode != worker.Waiting {
			answers(t, w, api.ErrNone, c.res())
		}
	case 6:
		if e := w.Store(16, 1); e != api.ErrBound {
			t.Errorf("Store(16, 1): %v", e)
		}
	case 7:
		if e := w.Missed(0, 4); e != api.ErrArg {
			t.Errorf("Missed(0, 4): %v", e)
		}
	case 8:
		look(t, w)
	}
}

// TestSameAgain: rule 7; one script on two workers, one behind the other: the same answers.
func TestSameAgain(t *testing.T) {
	c := drawn(7)
	for range 50 {
		turns := c.script(150)
		var all [2][]answer
		for i := range 2 {
			w := worker.New()
			for _, s := range turns {
				all[i] = append(all[i], play(t, w, s))
			}
		}
		if !slices.Equal(all[0], all[1]) {
			t.Fatalf("%+v, and again %+v", all[0], all[1])
		}
	}
}

// FuzzTold: bytes read as the choices of a script, held against what is told of it.
func FuzzTold(f *testing.F) {
	f.Add([]byte{1, 2, 3, 4, 5, 6, 7, 8})
	f.Add([]byte("an event is taken, a program is entered, stepped, answered, and so on to its end"))
	f.Add([]byte{5, 1, 1, 0, 2, 0, 2, 15, 0, 2, 0, 1, 3, 4, 3, 99, 99, 99, 99, 99, 99, 30, 0, 3, 99})
	f.Fuzz(func(t *testing.T, b []byte) {
		more := drawn(int64(len(b)))
		c := source(func(below int) int {
			if len(b) == 0 {
				return more(below)
			}
			n := int(b[0]) % below
			b = b[1:]
			return n
		})
		var seen met
		agree(t, c.script(100), &seen)
	})
}
