package host_test

import (
	"math"
	"math/rand"
	"slices"
	"testing"

	"tappet/api"
	"tappet/host"
)

// view is all that can be read of a host but its log.
type view struct {
	ready, ended, refs []int
	quiet              bool
	rings              []api.RingCounts
	tallies            []api.Tally
	pairs              [][]api.Pair
	answers            [][]api.Answer
}

// look reads a host.
func look(t *testing.T, h *host.Host, w world) view {
	t.Helper()
	v := view{ready: h.Ready(), ended: h.Ended(), refs: h.Refs(), quiet: h.Quiet(), rings: h.Rings(), tallies: h.Tallies()}
	for m := range w.config.Maps {
		ps, e := h.Pairs(m)
		if e != api.OK {
			t.Errorf("P25.4: Pairs(%d): %v", m, e)
		}
		v.pairs = append(v.pairs, ps)
	}
	for c := range w.scripts {
		v.answers = append(v.answers, h.Answers(c))
	}
	return v
}

// look is what the account says of all that.
func (a *account) look() view {
	v := view{ready: a.ready(), quiet: a.allFree(), tallies: make([]api.Tally, a.config.Hooks), answers: a.answers[:a.workers()]}
	for k := range a.log {
		e := &a.log[k]
		if e.What == 15 {
			v.ended = append(v.ended, e.Task)
		}
		a.tally(e, v.tallies)
	}
	slices.Sort(v.ended)
	for _, w := range a.waits {
		v.quiet = v.quiet && w == nil
	}
	for hook := range a.config.Hooks {
		n := func(what api.Mark) int {
			return a.count(func(e *api.Entry) bool { return e.What == what && e.Hook == hook })
		}
		v.rings = append(v.rings, api.RingCounts{Accepted: n(4), Refused: a.refused[hook], Taken: n(5), Dropped: n(10), Queued: len(a.queued(hook))})
	}
	for m := range a.maps {
		v.pairs = append(v.pairs, a.maps[m].Walk())
		v.refs = append(v.refs, a.refs(func(of api.Module) bool { return slices.Contains(of.Maps, m) }))
	}
	return v
}

// tally counts an entry of a run that has ended.
func (a *account) tally(e *api.Entry, ts []api.Tally) {
	if e.What != 9 {
		return
	}
	if e.Version == 0 {
		ts[e.Hook].Missed++
		return
	}
	all := func(what ...api.Mark) uint64 {
		return uint64(a.count(func(o *api.Entry) bool {
			return o.Event == e.Event && o.Task == e.Task && slices.Contains(what, o.What)
		}))
	}
	ts[e.Hook].Runs++
	ts[e.Hook].Steps += all(7, 8, 9, 16)
	ts[e.Hook].Calls += all(16)
	ts[e.Hook].Sum += e.Val
}

// sameAnswer tells whether these are one.
func sameAnswer(x, y api.Answer) bool {
	return x.E == y.E && x.N == y.N && slices.Equal(x.Res, y.Res) && slices.Equal(x.Pairs, y.Pairs)
}

// sameAnswers tells whether these are, one by one.
func sameAnswers(x, y []api.Answer) bool {
	return slices.EqualFunc(x, y, sameAnswer)
}

// same tells whether two views are one.
func (v view) same(w view) bool {
	return slices.Equal(v.ready, w.ready) && slices.Equal(v.ended, w.ended) && slices.Equal(v.refs, w.refs) && v.quiet == w.quiet &&
		slices.Equal(v.rings, w.rings) && slices.Equal(v.tallies, w.tallies) && slices.EqualFunc(v.pairs, w.pairs, slices.Equal) && slices.EqualFunc(v.answers, w.answers, sameAnswers)
}

// made is a new host.
func made(t *testing.T, w world) *host.Host {
	t.Helper()
	h, e := host.New(w.config, w.scripts...)
	if h == nil || e != api.OK {
		t.Fatalf("P25.1: New(%+v, ..): %v", w.config, e)
	}
	return h
}

// pair is a host and what is told of it.
type pair struct {
	*host.Host
	*account
}

// both are new ones.
func both(t *testing.T, w world) pair {
	t.Helper()
	return pair{made(t, w), opened(w)}
}

// agree tells whether the host and the account agree on all; at is how much of the log was seen to be one already.
func (p pair) agree(t *testing.T, at int) int {
	t.Helper()
	if got, want := look(t, p.Host, p.world), p.look(); !got.same(want) {
		t.Fatalf("P25.4: behind %d steps it is %+v, not %+v", p.turn, got, want)
	}
	log := p.Log()
	if len(log) != len(p.log) || !slices.Equal(log[at:], p.log[at:]) {
		t.Fatalf("P25.4: behind %d steps the log goes on with %+v, not with %+v", p.turn, log[min(at, len(log)):], p.log[at:])
	}
	return len(log)
}

// takes is that both have a step, by a choice or by fair turns.
func (p pair) takes(t *testing.T, fair bool, choice int) bool {
	t.Helper()
	call, pick := func() (int, bool) { return p.Step(choice) }, func() (int, bool) { return p.pick(choice) }
	if fair {
		call, pick = p.Fair, p.fair
	}
	task, ok := pick()
	if got, is := call(); got != task || is != ok {
		t.Fatalf("P25.2: step %d (fair: %v, choice %d): %d, %v, want %d, %v", p.turn, fair, choice, got, is, task, ok)
	}
	if ok {
		p.step(task)
	}
	return ok
}

// met counts what was met in runs, so that a test knows whether it was enough.
type met struct {
	steps    int
	marks    [18]int
	answered map[api.CmdKind]map[api.Errno]int
	two      int
	busy     int
	full     int
}

// see counts one step.
func (m *met) see(a *account) {
	m.steps++
	if len(a.held) > 1 {
		m.two++
	}
	if len(a.held) > 0 && a.finishable() < 0 {
		m.busy++
	}
	if slices.ContainsFunc(a.lines, func(q []ask) bool { return len(q) > 8 }) {
		m.full++
	}
}

// sum counts a whole run.
func (m *met) sum(a *account) {
	for _, e := range a.log {
		m.marks[e.What]++
	}
	if m.answered == nil {
		m.answered = map[api.CmdKind]map[api.Errno]int{}
	}
	for c, script := range a.scripts {
		for n, with := range a.answers[c] {
			kind := script[n].Kind
			if m.answered[kind] == nil {
				m.answered[kind] = map[api.Errno]int{}
			}
			m.answered[kind][with.E]++
		}
	}
}

// play runs a host and its account beside it, held together behind every step: the world's choices, then fair turns and a few choices between, to the end and behind it.
func play(t *testing.T, w world, c source, seen *met) *account {
	t.Helper()
	p := both(t, w)
	at := p.agree(t, 0)
	for _, choice := range w.choices {
		p.takes(t, false, choice)
		at = p.agree(t, at)
		seen.see(p.account)
	}
	for p.takes(t, c(3) > 0, c.choice()) {
		at = p.agree(t, at)
		seen.see(p.account)
	}
	p.takes(t, true, 0)
	p.takes(t, false, 7)
	if n := p.Run(1, 2, 3); n != 0 {
		t.Fatalf("P25.3: Run behind the end: %d steps", n)
	}
	p.agree(t, 0)
	seen.sum(p.account)
	return p.account
}

// source is where random choices come from.
type source func(below int) int

// drawn is a source of random choices.
func drawn(seed int64) source {
	return rand.New(rand.NewSource(seed)).Intn
}

// choice is any number, small ones mostly.
func (c source) choice() int {
	if c(10) == 0 {
		return []int{math.MinInt, math.MinInt + 1, -1, -2, 1 << 40, math.MaxInt - 1, math.MaxInt}[c(7)]
	}
	return c(12)
}

// odd is a number below 0, or one that is this great or greater.
func (c source) odd(most int) int {
	return []int{-1, most, most + 1, math.MinInt, math.MaxInt}[c(5)]
}

// number is a value: a small one mostly.
func (c source) number() uint64 {
	if c(10) == 0 {
		return []uint64{1 << 63, 1<<63 - 1, math.MaxUint64, 1 << 32}[c(4)]
	}
	return uint64(c(9))
}

// item is an operation on a map that there is, mostly.
func (c source) item(maps int) api.Item {
	i := api.Item{Map: c(max(maps, 1)), Op: api.MapOp(c(5)), Key: c.number(), Val: c.number()}
	switch c(40) {
	case 0:
		i.Map = c.odd(maps)
	case 1:
		i.Op = api.MapOp(c.odd(5))
	}
	return i
}

// hook is one that there is, mostly.
func (c source) hook(hooks int) int {
	if c(25) == 0 {
		return c.odd(hooks)
	}
	return c(hooks)
}

// prog is the number of a program that may have been loaded.
func (c source) prog() int {
	if c(25) == 0 {
		return c.odd(17)
	}
	return 1 + c(4)
}

// module is the bytes of a program, mostly of a good one.
func (c source) module(t *testing.T) []byte {
	all := programs(t)
	b := all[c(len(all))]
	switch c(20) {
	case 0:
		return b[:c(len(b)+1)]
	case 1:
		return append(b, 0)
	}
	return b
}

// cmd is a command of any kind.
func (c source) cmd(t *testing.T, s api.Config) api.Cmd {
	maps := len(s.Maps)
	switch n := c(100); {
	case n < 18:
		return api.Cmd{Kind: api.CmdItem, Item: c.item(maps)}
	case n < 28:
		many := c(5)
		if c(12) == 0 {
			many = 15 + c(3)
		}
		cmd := api.Cmd{Kind: api.CmdBatch}
		for range many {
			cmd.Items = append(cmd.Items, c.item(maps))
		}
		return cmd
	case n < 34:
		cmd := api.Cmd{Kind: api.CmdWalk, Map: c(max(maps, 1))}
		if c(10) == 0 {
			cmd.Map = c.odd(maps)
		}
		return cmd
	case n < 62:
		return api.Cmd{Kind: api.CmdFire, Hook: c.hook(s.Hooks), Event: api.Event{A: c.number(), B: c.number()}}
	case n < 70:
		return api.Cmd{Kind: api.CmdLoad, Module: c.module(t)}
	case n < 88:
		return api.Cmd{Kind: []api.CmdKind{api.CmdAttach, api.CmdAttach, api.CmdSwap, api.CmdSwap, api.CmdDetach}[c(5)], Hook: c.hook(s.Hooks), Prog: c.prog()}
	case n < 96:
		return api.Cmd{Kind: api.CmdRetire, Prog: c.prog()}
	case n < 99:
		return api.Cmd{Kind: api.CmdDrain}
	}
	return api.Cmd{Kind: api.CmdKind([]int{-1, 11, math.MinInt, math.MaxInt}[c(4)])}
}

// script is so many commands. Most begin so that there is something to run.
func (c source) script(t *testing.T, s api.Config, many int) []api.Cmd {
	var out []api.Cmd
	if c(4) > 0 && many > 3 {
		for hook := range 1 + c(s.Hooks) {
			out = append(out, api.Cmd{Kind: api.CmdLoad, Module: c.module(t)}, api.Cmd{Kind: api.CmdAttach, Hook: hook, Prog: 1 + c(2)})
		}
	}
	for len(out) < many {
		out = append(out, c.cmd(t, s))
	}
	if many > 0 && c(6) == 0 {
		out[many-1-c(min(many, 3))] = api.Cmd{Kind: api.CmdClose}
	}
	return out
}

// config is any shape, small ones mostly.
func (c source) config() api.Config {
	s := api.Config{Workers: 1 + c(4), Shards: 1 + c(4), Hooks: 1 + c(3), Ring: []int{1, 2, 2, 3, 16}[c(5)]}
	if c(8) == 0 {
		s.Hooks = 4
	}
	for range []int{0, 1, 1, 2, 2, 3, 4}[c(7)] {
		s.Maps = append(s.Maps, api.MapDef{Kind: api.MapKind(c(2)), Cap: []int{1, 1, 2, 3, 16}[c(5)]})
	}
	return s
}

// world is any: a shape, some scripts, and choices of a few manners.
func (c source) world(t *testing.T, most int) world {
	w := world{config: c.config()}
	for range 1 + c(4) {
		w.scripts = append(w.scripts, c.script(t, w.config, c(most)))
	}
	many, manner := c(150), c(4)
	for len(w.choices) < many {
		switch manner {
		case 0:
			w.choices = append(w.choices, 0)
		case 1:
			w.choices = append(w.choices, -1)
		default:
			w.choices = append(w.choices, c.choice())
		}
	}
	return w
}

// TestTold: P25.2 to P25.4, with the sections 'Steps' and 'The log'; random scripts under random choices, held step by step against the account.
func TestTold(t *testing.T) {
	c, seen := drawn(25), met{}
	for range 600 {
		play(t, c.world(t, 20), c, &seen)
	}
	seen.enough(t)
}

// enough is that much of all was met.
func (m *met) enough(t *testing.T) {
	t.Helper()
	for mark := api.Mark(1); mark < api.Marks; mark++ {
		if m.marks[mark] < 40 {
			t.Errorf("mark %d was met %d times", mark, m.marks[mark])
		}
	}
	for kind, es := range map[api.CmdKind][]api.Errno{
		api.CmdItem:   {api.OK, api.ErrArg, api.ErrClosed},
		api.CmdBatch:  {api.OK, api.ErrArg, api.ErrClosed},
		api.CmdWalk:   {api.OK, api.ErrArg, api.ErrClosed},
		api.CmdFire:   {api.OK, api.ErrArg, api.ErrFull, api.ErrClosed},
		api.CmdLoad:   {api.OK, api.ErrShort, api.ErrTrail, api.ErrType, api.ErrNone, api.ErrClosed},
		api.CmdAttach: {api.OK, api.ErrArg, api.ErrNone, api.ErrBusy, api.ErrClosed},
		api.CmdSwap:   {api.OK, api.ErrArg, api.ErrNone, api.ErrClosed},
		api.CmdDetach: {api.OK, api.ErrArg, api.ErrNone, api.ErrClosed},
		api.CmdRetire: {api.OK, api.ErrNone, api.ErrBusy, api.ErrClosed},
		api.CmdDrain:  {api.OK, api.ErrClosed},
		api.CmdClose:  {api.OK, api.ErrClosed},
		-1:            {api.ErrArg, api.ErrClosed},
		11:            {api.ErrArg, api.ErrClosed},
	} {
		for _, e := range es {
			if m.answered[kind][e] < 2 {
				t.Errorf("a command of kind %d was answered %v %d times", kind, e, m.answered[kind][e])
			}
		}
	}
	if m.two < 50 || m.busy < 200 || m.full < 50 {
		t.Errorf("too little was met: %+v", m)
	}
}

// TestToldLong: P25.2 to P25.4; a few worlds of long scripts.
func TestToldLong(t *testing.T) {
	c, seen := drawn(2564), met{}
	for range 20 {
		play(t, c.world(t, 65), c, &seen)
	}
	if seen.steps < 3000 {
		t.Errorf("only %d steps were done", seen.steps)
	}
}

// TestRun: P25.3; Run with any choices, in one call or in several, does what the account does by those choices and then by fair turns, and tells how many steps that were.
func TestRun(t *testing.T) {
	c := drawn(253)
	for range 300 {
		w := c.world(t, 14)
		p := both(t, w)
		for p.account.turn < c(20) {
			if !p.takes(t, c(2) == 0, c.choice()) {
				break
			}
		}
		before := p.account.turn
		got := p.Run(w.choices...)
		for _, choice := range w.choices {
			if task, ok := p.pick(choice); ok {
				p.step(task)
			}
		}
		for task, ok := p.fair(); ok; task, ok = p.fair() {
			p.step(task)
		}
		if want := p.account.turn - before; got != want {
			t.Fatalf("P25.3: Run did %d steps, not %d", got, want)
		}
		p.agree(t, 0)
		if again := p.Run(); again != 0 {
			t.Fatalf("P25.3: Run behind the end: %d steps", again)
		}
	}
}

// story is all that a host tells from its beginning to its end: whose turn it was, and what could be read behind each step.
type story struct {
	tasks []int
	views []view
	log   []api.Entry
}

// step is one of a host that stands in a story.
func (s *story) step(t *testing.T, h *host.Host, w world, at int) bool {
	t.Helper()
	task, ok := h.Fair, at >= len(w.choices)
	if !ok {
		task = func() (int, bool) { return h.Step(w.choices[at]) }
	}
	n, did := task()
	s.tasks = append(s.tasks, n)
	s.views = append(s.views, look(t, h, w))
	s.log = h.Log()
	return did || !ok
}

// alone is the story of one host by itself.
func alone(t *testing.T, w world) story {
	t.Helper()
	h, s := made(t, w), story{}
	for at := 0; s.step(t, h, w, at); at++ {
	}
	return s
}

// same tells whether two stories are one.
func (s story) same(o story) bool {
	return slices.Equal(s.tasks, o.tasks) && slices.EqualFunc(s.views, o.views, view.same) && slices.Equal(s.log, o.log)
}

// TestTurns: P25.5; two hosts in turns, in any turns, tell what each tells alone, of unlike worlds and of one.
func TestTurns(t *testing.T) {
	c := drawn(255)
	for round := range 100 {
		ws := [2]world{c.world(t, 12), c.world(t, 12)}
		if round%3 == 0 {
			ws[1] = ws[0]
		}
		hs := [2]*host.Host{made(t, ws[0]), made(t, ws[1])}
		var turns [2]story
		going := [2]bool{true, true}
		for at := [2]int{}; going[0] || going[1]; {
			if i := c(2); going[i] {
				going[i] = turns[i].step(t, hs[i], ws[i], at[i])
				at[i]++
			}
		}
		for i := range 2 {
			if !turns[i].same(alone(t, ws[i])) {
				t.Fatalf("P25.5: host %d in turns tells otherwise than alone", i)
			}
		}
	}
}

// TestSameAgain: P25.5; the same choices in the same host tell the same.
func TestSameAgain(t *testing.T) {
	c := drawn(2550)
	for range 50 {
		w := c.world(t, 16)
		if !alone(t, w).same(alone(t, w)) {
			t.Fatalf("P25.5: %+v tells something else once more", w)
		}
	}
}

// FuzzTold: bytes read as the choices of a world, held step by step against the account.
func FuzzTold(f *testing.F) {
	f.Add([]byte{1, 2, 3, 4, 5, 6, 7, 8})
	f.Add([]byte("a host is made, its clients issue commands, its workers run programs, and so on to the end"))
	f.Fuzz(func(t *testing.T, b []byte) {
		more := drawn(int64(len(b)))
		c := source(func(below int) int {
			if len(b) == 0 {
				return more(below)
			}
			n := int(b[0]) % below
			b = b[1:]
			return n
		})
		var seen met
		play(t, c.world(t, 16), c, &seen)
	})
}
