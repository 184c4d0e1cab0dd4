package host_test

import (
	"math"
	"slices"
	"strings"
	"testing"

	"tappet/api"
	"tappet/host"
	"tappet/kern"
	"tappet/lines"
	"tappet/registry"
	"tappet/wire"
)

// bytes are those of a module, of lines with commas between them.
func bytes(t *testing.T, text string, maps ...int) []byte {
	t.Helper()
	code, n, e := lines.Parse(strings.ReplaceAll(text, ", ", "\n") + "\n")
	if e != api.OK {
		t.Fatalf("%q: line %d: %v", text, n, e)
	}
	b, e := wire.Encode(api.Module{Maps: maps, Code: code})
	if e != api.OK {
		t.Fatalf("%q: %v", text, e)
	}
	return b
}

// adds is the text of the program that adds 5 to the key that the event names.
const adds = "field r2 0, map r1 0, set r3 5, call 4, exit r0"

// programs are a few good ones, and one that isn't.
func programs(t *testing.T) [][]byte {
	t.Helper()
	return [][]byte{
		bytes(t, adds, 0),
		bytes(t, "field r2 0, map r1 0, call 0, add r0 r0 1, exit r0", 0),
		bytes(t, "field r2 0, field r3 1, map r1 0, call 2, field r2 1, call 3, exit r0", 0),
		bytes(t, "field r2 0, map r1 1, call 1, jeq r0 1 3, set r3 1, call 4, exit r0, set r1 9, call 6, exit r0", 1, 0),
		bytes(t, "set r1 2, call 5, set r1 7, call 6, field r2 0, set r1 2, call 5, exit r0"),
		bytes(t, "field r0 0, load r4 3, store r0 3, set r5 3, sub r5 r5 1, loop r5 4 5, add r0 r0 r4, exit r0"),
		bytes(t, "field r2 1, map r1 0, set r3 1, call 4, add r2 r2 1, call 4, exit r2", 2),
		bytes(t, "exit r0"),
	}
}

// The commands.

func item(op api.MapOp, key, val uint64) api.Item {
	return api.Item{Op: op, Key: key, Val: val}
}

func single(i api.Item) api.Cmd     { return api.Cmd{Kind: api.CmdItem, Item: i} }
func batch(is ...api.Item) api.Cmd  { return api.Cmd{Kind: api.CmdBatch, Items: is} }
func walk(m int) api.Cmd            { return api.Cmd{Kind: api.CmdWalk, Map: m} }
func load(b []byte) api.Cmd         { return api.Cmd{Kind: api.CmdLoad, Module: b} }
func attach(hook, prog int) api.Cmd { return api.Cmd{Kind: api.CmdAttach, Hook: hook, Prog: prog} }
func swap(hook, prog int) api.Cmd   { return api.Cmd{Kind: api.CmdSwap, Hook: hook, Prog: prog} }
func detach(hook int) api.Cmd       { return api.Cmd{Kind: api.CmdDetach, Hook: hook} }
func retire(prog int) api.Cmd       { return api.Cmd{Kind: api.CmdRetire, Prog: prog} }
func drain() api.Cmd                { return api.Cmd{Kind: api.CmdDrain} }
func closes() api.Cmd               { return api.Cmd{Kind: api.CmdClose} }
func fire(hook int, a uint64) api.Cmd {
	return api.Cmd{Kind: api.CmdFire, Hook: hook, Event: api.Event{A: a}}
}

// plain is a shape with one plain map.
func plain(workers, shards, hooks, ring, room int) api.Config {
	return api.Config{Workers: workers, Shards: shards, Hooks: hooks, Ring: ring, Maps: []api.MapDef{{Kind: api.Plain, Cap: room}}}
}

// stage is a host whose tasks are called by their names, and how much of its log was looked at.
type stage struct {
	*host.Host
	t                         *testing.T
	workers, owners, registry int
	seen                      int
}

// set is a stage with a new host.
func set(t *testing.T, c api.Config, scripts ...[]api.Cmd) *stage {
	t.Helper()
	workers := len(scripts)
	return &stage{Host: made(t, world{config: c, scripts: scripts}), t: t, workers: workers, owners: workers + c.Workers, registry: workers + c.Workers + c.Shards}
}

// turns lets these tasks do a step each, which are to be ready.
func (s *stage) turns(tasks ...int) {
	s.t.Helper()
	for _, task := range tasks {
		choice := slices.Index(s.Ready(), task)
		if choice < 0 {
			s.t.Fatalf("task %d isn't ready: %v", task, s.Ready())
		}
		if got, ok := s.Step(choice); got != task || !ok {
			s.t.Fatalf("P25.2: Step(%d): %d, %v, want %d", choice, got, ok, task)
		}
	}
}

// many is a task so many times.
func many(task, n int) []int {
	return slices.Repeat([]int{task}, n)
}

// does lets a client issue commands, each of which is answered with nobody but the registry and the owners at work.
func (s *stage) does(client, many int) {
	s.t.Helper()
	for range many {
		before := len(s.Answers(client))
		s.turns(client)
		for len(s.Answers(client)) == before {
			able := s.Ready()
			if slices.Contains(able, client) {
				s.turns(client)
				continue
			}
			at := slices.IndexFunc(able, func(task int) bool { return task >= s.owners })
			if at < 0 {
				s.t.Fatalf("the command waits for workers: %v", able)
			}
			s.turns(able[at])
		}
	}
}

// says is that the log has gone on with these entries since it was looked at last.
func (s *stage) says(want ...api.Entry) {
	s.t.Helper()
	log := s.Log()
	if !slices.Equal(log[s.seen:], want) {
		s.t.Errorf("P25.4: the log goes on with\n%+v, want\n%+v", log[s.seen:], want)
	}
	s.seen = len(log)
}

// passes is that what has gone on isn't looked at.
func (s *stage) passes() {
	s.seen = len(s.Log())
}

// ready is that these tasks are, and no others.
func (s *stage) ready(want ...int) {
	s.t.Helper()
	if got := s.Ready(); !slices.Equal(got, want) {
		s.t.Errorf("P25.2: ready are %v, want %v", got, want)
	}
}

// answered is that a client's answers are these.
func (s *stage) answered(client int, want ...api.Answer) {
	s.t.Helper()
	if got := s.Answers(client); !sameAnswers(got, want) {
		s.t.Errorf("P25.4: client %d was answered %+v, want %+v", client, got, want)
	}
}

// latest is that a client's newest answer is this.
func (s *stage) latest(client int, want api.Answer) {
	s.t.Helper()
	all := s.Answers(client)
	if len(all) == 0 || !sameAnswer(all[len(all)-1], want) {
		s.t.Errorf("P25.4: client %d was answered %+v at last, want %+v", client, all, want)
	}
}

// ended is that all workers, owners and the registry have ended, and nobody else.
func (s *stage) ended() {
	s.t.Helper()
	var want []int
	for task := s.workers; task <= s.registry; task++ {
		want = append(want, task)
	}
	if got := s.Ended(); !slices.Equal(got, want) {
		s.t.Errorf("P25.4: ended are %v, want %v", got, want)
	}
}

// refused is that New refuses a shape and scripts.
func refused(t *testing.T, want api.Errno, c api.Config, scripts ...[]api.Cmd) {
	t.Helper()
	if h, e := host.New(c, scripts...); h != nil || e != want {
		t.Errorf("P25.1: New(%+v, %d scripts): %v, %v, want nil, %v", c, len(scripts), h != nil, e, want)
	}
}

// shapes are a right shape with one of its numbers turned into another: the right ones, and the wrong ones.
func shapes() (right, wrong []func(c *api.Config)) {
	number := func(most int, put func(c *api.Config, n int)) {
		for n := 1; n <= most; n++ {
			right = append(right, func(c *api.Config) { put(c, n) })
		}
		for _, n := range []int{0, -1, most + 1, math.MinInt, math.MaxInt, 1<<32 + 1, 1 << 32} {
			wrong = append(wrong, func(c *api.Config) { put(c, n) })
		}
	}
	number(4, func(c *api.Config, n int) { c.Workers = n })
	number(4, func(c *api.Config, n int) { c.Shards = n })
	number(4, func(c *api.Config, n int) { c.Hooks = n })
	number(16, func(c *api.Config, n int) { c.Ring = n })
	number(16, func(c *api.Config, n int) { c.Maps = []api.MapDef{{Cap: 16}, {Kind: 1, Cap: n}} })
	for n := range 7 {
		put := func(c *api.Config) { c.Maps = slices.Repeat([]api.MapDef{{Cap: 1}}, n) }
		if n <= 4 {
			right = append(right, put)
		} else {
			wrong = append(wrong, put)
		}
	}
	for _, kind := range []api.MapKind{-1, 2, math.MinInt, math.MaxInt} {
		for at := range 3 {
			wrong = append(wrong, func(c *api.Config) {
				c.Maps = slices.Repeat([]api.MapDef{{Cap: 3}}, 3)
				c.Maps[at].Kind = kind
			})
		}
	}
	return right, wrong
}

// TestNewShapes: P25.1; each number of a shape as it may be and as it may not, alone and two together.
func TestNewShapes(t *testing.T) {
	right, wrong := shapes()
	for _, put := range right {
		c := plain(2, 2, 2, 2, 2)
		put(&c)
		begins(t, c, nil, []api.Cmd{closes()})
	}
	for _, one := range wrong {
		c := plain(2, 2, 2, 2, 2)
		one(&c)
		refused(t, api.ErrArg, c, nil)
		refused(t, api.ErrArg, c)
		refused(t, api.ErrArg, c, make([]api.Cmd, 65))
		for _, other := range wrong {
			d := c
			other(&d)
			refused(t, api.ErrArg, d, nil)
		}
		for _, other := range right {
			d := plain(2, 2, 2, 2, 2)
			other(&d)
			one(&d)
			refused(t, api.ErrArg, d, nil)
		}
	}
	refused(t, api.ErrArg, api.Config{}, nil)
	refused(t, api.ErrArg, api.Config{})
}

// begins is that a host of this shape is made, and is at its beginning; and that it has as many workers, owners, hooks, rooms and maps as the shape says.
func begins(t *testing.T, c api.Config, scripts ...[]api.Cmd) {
	t.Helper()
	s := set(t, c, scripts...)
	v, want := look(t, s.Host, world{config: c, scripts: scripts}), view{quiet: true, refs: make([]int, len(c.Maps)), rings: make([]api.RingCounts, c.Hooks), tallies: make([]api.Tally, c.Hooks), pairs: make([][]api.Pair, len(c.Maps)), answers: make([][]api.Answer, len(scripts))}
	for n, script := range scripts {
		if len(script) > 0 {
			want.ready = append(want.ready, n)
		}
	}
	if !v.same(want) || len(s.Log()) > 0 {
		t.Errorf("P25.1: New(%+v, ..) is %+v, want %+v", c, v, want)
	}
	for _, m := range []int{-1, len(c.Maps), math.MinInt, math.MaxInt} {
		if ps, e := s.Pairs(m); len(ps) > 0 || e != api.ErrArg {
			t.Errorf("P25.4: Pairs(%d): %v, %v", m, ps, e)
		}
	}
	if n := s.Run(); n == 0 {
		t.Errorf("P25.3: Run of %+v did nothing", c)
	}
	s.ended()
	rooms(t, c)
}

// rooms is that the rings of such a host have the room that its shape says.
func rooms(t *testing.T, c api.Config) {
	t.Helper()
	var script []api.Cmd
	var want []api.Answer
	for n := range c.Ring {
		script, want = append(script, fire(c.Hooks-1, 1)), append(want, api.Answer{N: n + 1})
	}
	s := set(t, c, append(script, fire(c.Hooks-1, 1), fire(c.Hooks, 1)))
	s.turns(many(0, c.Ring+2)...)
	s.answered(0, append(want, api.Answer{E: api.ErrFull}, api.Answer{E: api.ErrArg})...)
}

// TestNewScripts: P25.1; how many scripts there may be, and how long they may be.
func TestNewScripts(t *testing.T) {
	c := plain(1, 1, 1, 1, 2)
	refused(t, api.ErrArg, c)
	refused(t, api.ErrArg, c, nil, nil, nil, nil, nil)
	refused(t, api.ErrArg, c, nil, nil, nil, make([]api.Cmd, 65), nil)
	refused(t, api.ErrArg, c, make([][]api.Cmd, 64)...)
	for n := 1; n <= 4; n++ {
		scripts := make([][]api.Cmd, n)
		s := set(t, c, scripts...)
		s.ready()
		if got := s.Run(4, 5); got != 0 || !s.Quiet() {
			t.Errorf("P25.3: %d empty scripts: %d steps", n, got)
		}
		for at := range n {
			for _, long := range []int{65, 66, 500} {
				scripts := slices.Repeat([][]api.Cmd{{closes()}, nil}, n)[:n]
				scripts[at] = make([]api.Cmd, long)
				refused(t, api.ErrLong, c, scripts...)
				wrong := c
				wrong.Ring = 17
				refused(t, api.ErrArg, wrong, scripts...)
			}
			longest(t, c, n, at)
		}
	}
}

// longest is that one script of 64 commands among others is done whole.
func longest(t *testing.T, c api.Config, n, at int) {
	t.Helper()
	scripts := make([][]api.Cmd, n)
	scripts[at] = slices.Repeat([]api.Cmd{single(item(api.MapAdd, 1, 1))}, 64)
	s := set(t, c, scripts...)
	s.ready(at)
	if got := s.Run(); got != 3*64 {
		t.Errorf("P25.3: 64 commands: %d steps", got)
	}
	for client := range n {
		if got := len(s.Answers(client)); got != len(scripts[client]) {
			t.Errorf("P25.4: client %d has %d answers", client, got)
		}
	}
	s.latest(at, api.Answer{Res: []api.Res{{Found: true, Val: 64}}})
}

// TestExamples: the chapter's examples.
func TestExamples(t *testing.T) {
	c, put9 := plain(1, 1, 1, 1, 2), item(api.MapPut, 3, 9)
	s := set(t, c, []api.Cmd{single(put9), fire(0, 7), closes()})
	if n := s.Run(); n != 12 {
		t.Errorf("P25.3: Run: %d steps, want 12", n)
	}
	s.says(
		api.Entry{What: api.MarkCall},
		api.Entry{What: api.MarkApply, Task: 2, Item: put9},
		api.Entry{What: api.MarkReturn},
		api.Entry{What: api.MarkCall, Cmd: 1},
		api.Entry{What: api.MarkAccept, Cmd: 1, Event: 1},
		api.Entry{What: api.MarkReturn, Cmd: 1, Val: 1},
		api.Entry{What: api.MarkTake, Task: 1, Event: 1},
		api.Entry{What: api.MarkCall, Cmd: 2},
		api.Entry{What: api.MarkClosed, Task: 3},
		api.Entry{What: api.MarkDone, Task: 1, Event: 1},
		api.Entry{What: api.MarkEnd, Task: 1},
		api.Entry{What: api.MarkEnd, Task: 2},
		api.Entry{What: api.MarkEnd, Task: 3},
		api.Entry{What: api.MarkReturn, Cmd: 2},
	)
	s.answered(0, api.Answer{Res: []api.Res{{}}}, api.Answer{N: 1}, api.Answer{})
	s.ended()

	s = set(t, c, []api.Cmd{fire(0, 7), fire(0, 8)})
	s.turns(0, 0)
	s.answered(0, api.Answer{N: 1}, api.Answer{E: api.ErrFull})

	refused(t, api.ErrArg, plain(0, 1, 1, 1, 2), nil)
	refused(t, api.ErrArg, plain(1, 1, 1, 17, 2), nil)
	refused(t, api.ErrArg, plain(1, 1, 1, 1, 0), nil)
	refused(t, api.ErrArg, c)
	refused(t, api.ErrLong, c, make([]api.Cmd, 65))
}

// TestWholeExamples: DOC.md's ten examples of the whole, but for the tenth, which is TestSameAgain.
func TestWholeExamples(t *testing.T) {
	c, p := plain(1, 1, 1, 2, 2), bytes(t, adds, 0)
	found := func(n uint64) api.Answer { return api.Answer{Res: []api.Res{{Found: true, Val: n}}} }
	get3 := single(item(api.MapGet, 3, 0))
	n := func(n int) api.Answer { return api.Answer{N: n} }

	s := set(t, c, []api.Cmd{load(p), attach(0, 1), fire(0, 3), drain(), get3})
	s.Run()
	s.answered(0, n(1), n(1), n(1), api.Answer{}, found(5))

	s = set(t, c, []api.Cmd{load(p), attach(0, 1), fire(0, 3), fire(0, 3), drain(), get3})
	s.Run()
	s.latest(0, found(10))

	s = set(t, c, []api.Cmd{fire(0, 3), fire(0, 3), fire(0, 3)})
	s.turns(0, 0, 0)
	s.answered(0, n(1), n(2), api.Answer{E: api.ErrFull})
	s.rings(api.RingCounts{Accepted: 2, Refused: 1, Queued: 2})
	s.Run()
	s.tallies(api.Tally{Missed: 2})
	if log := s.Log(); log[len(log)-1] != (api.Entry{What: api.MarkDone, Task: 1, Event: 2}) {
		t.Errorf("the event was done by %+v", log[len(log)-1])
	}

	s = set(t, c, []api.Cmd{load(p), load(p), attach(0, 1), fire(0, 3)}, []api.Cmd{swap(0, 2)})
	s.does(0, 4)
	s.turns(s.workers)
	s.does(1, 1)
	s.answered(1, n(2))
	s.passes()
	s.turns(s.workers)
	s.says(api.Entry{What: api.MarkEnter, Task: 2, Event: 1, Prog: 2, Version: 2})

	s = set(t, c, []api.Cmd{batch(item(api.MapPut, 1, 1), item(api.MapPut, 2, 2), item(api.MapPut, 3, 3))})
	s.Run()
	s.answered(0, api.Answer{Res: []api.Res{{}, {}, {E: api.ErrFull}}})
	bounded := plain(1, 1, 1, 2, 2)
	bounded.Maps[0].Kind = api.Bounded
	s = set(t, bounded, []api.Cmd{batch(item(api.MapPut, 1, 1), item(api.MapPut, 2, 2), item(api.MapPut, 3, 3))})
	s.Run()
	s.answered(0, api.Answer{Res: []api.Res{{}, {}, {Out: true, OutKey: 1, OutVal: 1}}})

	s = set(t, c, []api.Cmd{load(p[:len(p)-1]), load(bytes(t, "exit r0"))})
	s.Run()
	s.answered(0, api.Answer{E: api.ErrShort}, api.Answer{E: api.ErrType})
}

// TestConsoleHost: the host of chapter 28's example takes 29 steps.
func TestConsoleHost(t *testing.T) {
	s := set(t, plain(1, 1, 1, 1, 2), []api.Cmd{load(bytes(t, adds, 0)), attach(0, 1), fire(0, 3), drain(), single(item(api.MapGet, 3, 0)), closes()})
	if n := s.Run(); n != 29 || s.Turns() != 29 {
		t.Errorf("P25.3: %d steps, %d turns, want 29", n, s.Turns())
	}
	s.answered(0, api.Answer{N: 1}, api.Answer{N: 1}, api.Answer{N: 1}, api.Answer{}, api.Answer{Res: []api.Res{{Found: true, Val: 5}}}, api.Answer{})
	s.rings(api.RingCounts{Accepted: 1, Taken: 1})
	s.tallies(api.Tally{Runs: 1, Steps: 5, Calls: 1, Sum: 5})
	s.ended()
}

// rings is that the rings' counts are these.
func (s *stage) rings(want ...api.RingCounts) {
	s.t.Helper()
	if got := s.Rings(); !slices.Equal(got, want) {
		s.t.Errorf("P25.4: the rings' counts are %+v, want %+v", got, want)
	}
}

// tallies is that these are the tallies.
func (s *stage) tallies(want ...api.Tally) {
	s.t.Helper()
	if got := s.Tallies(); !slices.Equal(got, want) {
		s.t.Errorf("P25.4: the tallies are %+v, want %+v", got, want)
	}
}

// refs is that the maps' counts are these.
func (s *stage) refs(want ...int) {
	s.t.Helper()
	if got := s.Refs(); !slices.Equal(got, want) {
		s.t.Errorf("P25.4: the maps' counts are %v, want %v", got, want)
	}
}

// TestChoices: P25.2; which task a choice picks, of all kinds of choices.
func TestChoices(t *testing.T) {
	for _, one := range []struct{ choice, task int }{
		{0, 0}, {1, 1}, {2, 3}, {3, 0}, {-1, 3}, {-2, 1}, {-3, 0}, {-4, 3}, {301, 1}, {-301, 3},
		{math.MaxInt, 1}, {math.MaxInt - 1, 0}, {math.MinInt, 1}, {math.MinInt + 1, 3},
	} {
		s := set(t, plain(1, 1, 1, 1, 2), []api.Cmd{drain()}, []api.Cmd{drain()}, nil, []api.Cmd{drain()})
		s.ready(0, 1, 3)
		if task, ok := s.Step(one.choice); task != one.task || !ok {
			t.Errorf("P25.2: Step(%d): %d, %v, want %d", one.choice, task, ok, one.task)
		}
		s.says(api.Entry{What: api.MarkCall, Task: one.task})
	}
}

// TestFairness: P25.2, P25.3; fair turns go to the one that is ready and has waited longest, be its last turn by Step or by Fair.
func TestFairness(t *testing.T) {
	many := slices.Repeat([]api.Cmd{{Kind: -1}}, 20)
	s := set(t, plain(1, 1, 1, 1, 2), many, many, many)
	for at, want := range []int{0, 1, 2, 0, 1, 2} {
		if task, ok := s.Fair(); task != want || !ok {
			t.Errorf("P25.2: fair turn %d: %d, %v, want %d", at, task, ok, want)
		}
	}
	s.turns(0, 2, 0)
	for at, want := range []int{1, 2, 0, 1} {
		if task, ok := s.Fair(); task != want || !ok {
			t.Errorf("P25.2: fair turn %d: %d, %v, want %d", at, task, ok, want)
		}
	}
	if n := s.Run(0, 0, 0); n != 60-13 {
		t.Errorf("P25.3: Run: %d steps, want %d", n, 60-13)
	}
}

// TestNoneReady: P25.2, P25.3; where no task is ready nothing happens, whatever is asked.
func TestNoneReady(t *testing.T) {
	for _, script := range [][]api.Cmd{nil, {fire(0, 1)}, {closes()}, {load(nil), drain()}} {
		s := set(t, plain(1, 2, 1, 1, 2), script)
		s.Run()
		before, log, turns := look(t, s.Host, world{scripts: make([][]api.Cmd, 1)}), s.Log(), s.Turns()
		for _, choice := range []int{0, 1, -1, math.MinInt, math.MaxInt} {
			if task, ok := s.Step(choice); task != 0 || ok {
				t.Errorf("P25.2: Step(%d) with none ready: %d, %v", choice, task, ok)
			}
			if task, ok := s.Fair(); task != 0 || ok {
				t.Errorf("P25.2: Fair with none ready: %d, %v", task, ok)
			}
			if n := s.Run(choice, 3, choice); n != 0 {
				t.Errorf("P25.3: Run with none ready: %d steps", n)
			}
		}
		if after := look(t, s.Host, world{scripts: make([][]api.Cmd, 1)}); !after.same(before) || !slices.Equal(s.Log(), log) || s.Turns() != turns {
			t.Errorf("P25.2: it was %+v, and is %+v", before, after)
		}
	}
}

// TestRunCounts: P25.3; choices behind the last step count for nothing; with choices and without them all is done.
func TestRunCounts(t *testing.T) {
	script := []api.Cmd{single(item(api.MapPut, 1, 1)), walk(0)}
	for many := range 12 {
		s := set(t, plain(1, 1, 1, 1, 2), script)
		if n := s.Run(make([]int, many)...); n != 6 {
			t.Errorf("P25.3: Run of %d choices: %d steps, want 6", many, n)
		}
		s.latest(0, api.Answer{Pairs: []api.Pair{{Key: 1, Val: 1}}})
	}
	// Choices come ahead of fair turns, and in their order.
	s := set(t, plain(1, 1, 1, 1, 2), slices.Repeat([]api.Cmd{{Kind: 11}}, 3), slices.Repeat([]api.Cmd{{Kind: 11}}, 3))
	if n := s.Run(1, 1, 0, -1); n != 6 {
		t.Errorf("P25.3: Run: %d steps, want 6", n)
	}
	var tasks []int
	for _, e := range s.Log() {
		if e.What == api.MarkCall {
			tasks = append(tasks, e.Task)
		}
	}
	if !slices.Equal(tasks, []int{1, 1, 0, 1, 0, 0}) {
		t.Errorf("P25.3: Run(1, 1, 0, -1): the calls came from %v", tasks)
	}
}

// TestNoSuch: P25.4, P1; there is no such client, no such map.
func TestNoSuch(t *testing.T) {
	s := set(t, plain(1, 1, 1, 1, 2), []api.Cmd{single(item(api.MapPut, 1, 1))}, []api.Cmd{fire(0, 1)})
	s.Run()
	for _, n := range []int{-1, 2, 3, math.MinInt, math.MaxInt} {
		if got := s.Answers(n); len(got) > 0 {
			t.Errorf("P25.4: Answers(%d): %v", n, got)
		}
	}
	for _, n := range []int{-1, 1, 2, math.MinInt, math.MaxInt} {
		if ps, e := s.Pairs(n); len(ps) > 0 || e != api.ErrArg {
			t.Errorf("P25.4: Pairs(%d): %v, %v", n, ps, e)
		}
	}
}

// TestPairs: P25.4; all pairs of a map, shard by shard, in each of them keys rising; and CmdWalk answers them likewise.
func TestPairs(t *testing.T) {
	c := plain(1, 4, 1, 1, 16)
	c.Maps = append(c.Maps, api.MapDef{Kind: api.Bounded, Cap: 1})
	var items []api.Item
	for _, key := range []uint64{5, 4, 3, 2, 1, 0} {
		items = append(items, item(api.MapPut, key, 10*key))
	}
	s := set(t, c, []api.Cmd{batch(items...), single(api.Item{Map: 1, Op: api.MapPut, Key: 7, Val: 1}), walk(0), walk(1)})
	s.Run()
	// Keys 0 and 3 lie in shard 0, 1 and 4 in shard 1, 2 in shard 2, 5 in shard 3.
	want := []api.Pair{{Key: 0}, {Key: 3, Val: 30}, {Key: 1, Val: 10}, {Key: 4, Val: 40}, {Key: 2, Val: 20}, {Key: 5, Val: 50}}
	if ps, e := s.Pairs(0); !slices.Equal(ps, want) || e != api.OK {
		t.Errorf("P25.4: Pairs(0): %v, %v, want %v", ps, e, want)
	}
	if ps, e := s.Pairs(1); !slices.Equal(ps, []api.Pair{{Key: 7, Val: 1}}) || e != api.OK {
		t.Errorf("P25.4: Pairs(1): %v, %v", ps, e)
	}
	all := s.Answers(0)
	if !sameAnswer(all[2], api.Answer{Pairs: want}) || !sameAnswer(all[3], api.Answer{Pairs: []api.Pair{{Key: 7, Val: 1}}}) {
		t.Errorf("CmdWalk: %+v", all[2:])
	}
}

// TestPromoted: the section 'Ways'; a host has the registry's and the kern's methods, and they tell of it.
func TestPromoted(t *testing.T) {
	s := set(t, plain(1, 1, 1, 1, 2), []api.Cmd{load(bytes(t, adds, 0)), load(bytes(t, adds, 0)), attach(0, 1), swap(0, 2), retire(1), fire(0, 3)})
	var _ *registry.Registry = s.Host.Registry
	var _ *kern.Kern = s.Host.Kern
	s.does(0, 6)
	s.turns(1, 1)
	if live, late := s.Live(), s.Retiring(); !slices.Equal(live, []int{2}) || len(late) > 0 {
		t.Errorf("Live: %v, Retiring: %v", live, late)
	}
	if v, prog, ok := s.Current(0); v != 2 || prog != 2 || !ok {
		t.Errorf("Current(0): %d, %d, %v", v, prog, ok)
	}
	if m, ok := s.Module(2); len(m.Code) != 5 || !ok {
		t.Errorf("Module(2): %v, %v", m, ok)
	}
	if epoch, ok := s.In(0); epoch != 2 || !ok || s.Now() != 2 {
		t.Errorf("In(0): %d, %v; Now: %d", epoch, ok, s.Now())
	}
	if s.Turns() != 5*3+1+1+2 || s.Last() != 2 {
		t.Errorf("Turns: %d, Last: %d", s.Turns(), s.Last())
	}
}
