package host_test

import (
	"math"
	"slices"
	"testing"

	"tappet/api"
)

// trial is a command, what it is answered by an open host, and whether it is answered at once; if not, whether the registry answers it (or owners do).
type trial struct {
	cmd  api.Cmd
	want api.Answer
	now  bool
	desk bool
}

// odd are numbers below 0, and ones that are this great or greater.
func odd(most int) []int {
	return []int{-1, most, most + 1, 1 << 32, math.MinInt, math.MaxInt}
}

// trials are commands for the host of trialShape, each kind as it may be and with each of its fields wrong.
func trials(t *testing.T) []trial {
	t.Helper()
	out := []trial{
		{cmd: batch(slices.Repeat([]api.Item{item(api.MapHas, 5, 0)}, 16)...), want: api.Answer{Res: slices.Repeat([]api.Res{{Found: true}}, 16)}},
		{cmd: batch(item(api.MapGet, 5, 7)), want: api.Answer{Res: []api.Res{{Found: true, Val: 50}}}},
		{cmd: walk(0), want: api.Answer{Pairs: []api.Pair{{Key: 5, Val: 50}}}},
		{cmd: walk(1)},
		{cmd: batch(), want: api.Answer{E: api.ErrArg}, now: true},
		{cmd: batch(slices.Repeat([]api.Item{item(api.MapHas, 5, 0)}, 17)...), want: api.Answer{E: api.ErrArg}, now: true},
		{cmd: load(bytes(t, adds, 1)), want: api.Answer{N: 2}, desk: true},
		{cmd: load(nil), want: api.Answer{E: api.ErrShort}, desk: true},
		{cmd: load(bytes(t, adds, 1)[:9]), want: api.Answer{E: api.ErrShort}, desk: true},
		{cmd: load(append(bytes(t, adds, 1), 1)), want: api.Answer{E: api.ErrTrail}, desk: true},
		{cmd: load([]byte{1, 2, 3, 4, 5, 6, 7}), want: api.Answer{E: api.ErrForm}, desk: true},
		{cmd: load(bytes(t, "exit r3")), want: api.Answer{E: api.ErrType}, desk: true},
		{cmd: load(bytes(t, adds, 2)), want: api.Answer{E: api.ErrNone}, desk: true},
		{cmd: attach(1, 1), want: api.Answer{N: 2}, desk: true},
		{cmd: attach(0, 1), want: api.Answer{E: api.ErrBusy}, desk: true},
		{cmd: swap(0, 1), want: api.Answer{N: 2}, desk: true},
		{cmd: swap(1, 1), want: api.Answer{E: api.ErrNone}, desk: true},
		{cmd: detach(0), desk: true},
		{cmd: detach(1), want: api.Answer{E: api.ErrNone}, desk: true},
		{cmd: retire(1), want: api.Answer{E: api.ErrBusy}, desk: true},
		{cmd: drain(), desk: true},
	}
	for op := range api.MapOp(5) {
		want := []api.Res{{Found: true, Val: 50}, {Found: true}, {Found: true, Val: 50}, {Found: true, Val: 50}, {Found: true, Val: 49}}[op]
		out = append(out, trial{cmd: single(item(op, 5, math.MaxUint64)), want: api.Answer{Res: []api.Res{want}}})
		for _, n := range []uint64{0, 1 << 63, math.MaxUint64} {
			key, other := item(op, n, 9), api.Item{Map: 1, Op: op, Key: n, Val: n}
			var first, then api.Res
			if op == api.MapAdd {
				first, then = api.Res{Val: 9}, api.Res{Val: n}
			}
			out = append(out, trial{cmd: batch(key, other), want: api.Answer{Res: []api.Res{first, then}}})
		}
	}
	return append(out, wrongs()...)
}

// wrongs are those trials that have a number that is none.
func wrongs() []trial {
	var out []trial
	at := func(cmd api.Cmd) { out = append(out, trial{cmd: cmd, want: api.Answer{E: api.ErrArg}, now: true}) }
	desk := func(cmd api.Cmd, e api.Errno) { out = append(out, trial{cmd: cmd, want: api.Answer{E: e}, desk: true}) }
	right := item(api.MapPut, 6, 6)
	for _, n := range odd(2) {
		wrong := api.Item{Map: n, Op: api.MapPut, Key: 6}
		at(single(wrong))
		at(batch(wrong))
		at(batch(right, wrong, right))
		at(batch(right, right, wrong))
		at(walk(n))
		at(fire(n, 1))
		desk(attach(n, 1), api.ErrArg)
		desk(attach(n, 7), api.ErrArg)
		desk(swap(n, 1), api.ErrArg)
		desk(detach(n), api.ErrArg)
	}
	for _, n := range odd(5) {
		wrong := api.Item{Op: api.MapOp(n), Key: 6}
		at(single(wrong))
		at(batch(wrong, right))
		at(batch(append(slices.Repeat([]api.Item{right}, 15), wrong)...))
	}
	for _, n := range append(odd(2), 0) {
		desk(attach(1, n), api.ErrNone)
		desk(swap(0, n), api.ErrNone)
		desk(retire(n), api.ErrNone)
	}
	for _, n := range odd(11) {
		at(api.Cmd{Kind: api.CmdKind(n), Item: right, Items: []api.Item{right}, Prog: 1})
	}
	return out
}

// trialShape has two maps and two hooks.
func trialShape() api.Config {
	return api.Config{Workers: 1, Shards: 2, Hooks: 2, Ring: 1, Maps: []api.MapDef{{Cap: 2}, {Kind: api.Bounded, Cap: 1}}}
}

// ground is a host in which a program is at hook 0, and key 5 of map 0 is 50, by the last of three clients; the others have these scripts.
func ground(t *testing.T, one, other []api.Cmd) *stage {
	t.Helper()
	s := set(t, trialShape(), one, other, []api.Cmd{load(bytes(t, adds, 0)), attach(0, 1), single(item(api.MapPut, 5, 50))})
	s.does(2, 3)
	s.passes()
	return s
}

// atOnce is that a client issues a command which is answered in that step, and that nothing else happens.
func (s *stage) atOnce(client int, want api.Answer) {
	s.t.Helper()
	w := world{config: trialShape(), scripts: make([][]api.Cmd, 3)}
	before := look(s.t, s.Host, w)
	n := len(s.Answers(client))
	s.turns(client)
	s.latest(client, want)
	s.says(api.Entry{What: api.MarkCall, Task: client, Cmd: n}, api.Entry{What: api.MarkReturn, Task: client, Cmd: n, E: want.E, Val: uint64(want.N)})
	after := look(s.t, s.Host, w)
	before.answers[client] = append(before.answers[client], want)
	before.ready, after.ready = nil, nil
	if !after.same(before) {
		s.t.Errorf("behind %+v it is %+v, and was %+v", want, after, before)
	}
}

// waits is that a client issues a command for whose answer it waits.
func (s *stage) waits(client int) {
	s.t.Helper()
	n := len(s.Answers(client))
	s.turns(client)
	s.says(api.Entry{What: api.MarkCall, Task: client, Cmd: n})
	if len(s.Answers(client)) != n || s.Quiet() || slices.Contains(s.Ready(), client) {
		s.t.Errorf("client %d doesn't wait", client)
	}
}

// TestCommandsOpen: the section 'Steps'; each command by itself, ahead of any CmdClose: what it is answered, and when.
func TestCommandsOpen(t *testing.T) {
	for _, one := range trials(t) {
		for client := range 2 {
			scripts := [2][]api.Cmd{}
			scripts[client] = []api.Cmd{one.cmd}
			s := ground(t, scripts[0], scripts[1])
			if one.now {
				s.atOnce(client, one.want)
				continue
			}
			s.waits(client)
			if one.desk {
				s.ready(6)
			}
			s.finishes(client)
			s.answered(client, one.want)
		}
	}
}

// finishes lets all others work until what a client waits for has come, and then lets it return.
func (s *stage) finishes(client int) {
	s.t.Helper()
	for !slices.Contains(s.Ready(), client) {
		s.turns(s.Ready()[0])
	}
	before, n := len(s.Log()), len(s.Answers(client))
	s.turns(client)
	log := s.Log()[before:]
	a := s.Answers(client)[n]
	if want := (api.Entry{What: api.MarkReturn, Task: client, Cmd: n, E: a.E, Val: uint64(a.N)}); len(log) != 1 || log[0] != want {
		s.t.Errorf("it returns with %+v, want %+v", log, want)
	}
}

// TestCommandsBehindClose: the section 'Steps'; each command, right or wrong, behind a CmdClose that is done: ErrClosed at once, from the same client and from another, when all have ended and while the close is under way.
func TestCommandsBehindClose(t *testing.T) {
	closed := api.Answer{E: api.ErrClosed}
	all := append(trials(t), trial{cmd: closes()}, trial{cmd: fire(0, 1)})
	for _, one := range all {
		s := ground(t, []api.Cmd{closes(), one.cmd}, []api.Cmd{one.cmd, one.cmd})
		s.turns(0, 6)
		s.passes()
		s.atOnce(1, closed)
		s.turns(3, 4, 5)
		s.passes()
		s.atOnce(1, closed)
		s.turns(6, 0)
		s.passes()
		s.atOnce(0, closed)
		s.answered(1, closed, closed)
		s.ended()
		s.ready()
	}
}

// TestCommandsDuringClose: the section 'Steps'; each command, issued while a CmdClose waits in the registry's line ahead of it: what the client or the owners answer is as ever, what the registry answers is ErrClosed.
func TestCommandsDuringClose(t *testing.T) {
	for _, one := range append(trials(t), trial{cmd: closes(), desk: true}) {
		s := ground(t, []api.Cmd{closes()}, []api.Cmd{one.cmd})
		s.turns(0)
		s.passes()
		if one.now {
			s.atOnce(1, one.want)
			continue
		}
		s.waits(1)
		s.turns(6)
		s.says(api.Entry{What: api.MarkClosed, Task: 6})
		if !one.desk {
			s.finishes(1)
			s.answered(1, one.want)
			continue
		}
		s.turns(6)
		s.says()
		s.finishes(1)
		s.answered(1, api.Answer{E: api.ErrClosed})
		s.refs(1, 0)
		s.Run()
		s.answered(0, api.Answer{})
		s.ended()
	}
}

// TestCommandsAheadOfClose: the section 'Steps'; each command, issued ahead of a CmdClose that waits behind it in the registry's line: it is answered as ever.
func TestCommandsAheadOfClose(t *testing.T) {
	for _, one := range trials(t) {
		if one.now {
			continue
		}
		s := ground(t, []api.Cmd{closes()}, []api.Cmd{one.cmd})
		s.turns(1, 0)
		s.Run()
		s.answered(1, one.want)
		s.answered(0, api.Answer{})
		s.ended()
	}
}

// TestOtherFields: the section 'Steps'; of a command those fields count that its kind names, the others for nothing.
func TestOtherFields(t *testing.T) {
	junk := api.Cmd{Item: api.Item{Map: -1, Op: 9}, Items: []api.Item{{Map: 77}}, Map: -5, Hook: 99, Prog: -3, Event: api.Event{A: 1, B: 2}, Module: []byte{7}}
	mixed := func(put func(c *api.Cmd)) api.Cmd {
		c := junk
		put(&c)
		return c
	}
	s := set(t, trialShape(), []api.Cmd{
		mixed(func(c *api.Cmd) { c.Item = item(api.MapPut, 1, 2) }),
		mixed(func(c *api.Cmd) { c.Kind, c.Items = api.CmdBatch, []api.Item{item(api.MapGet, 1, 0)} }),
		mixed(func(c *api.Cmd) { c.Kind, c.Map = api.CmdWalk, 0 }),
		mixed(func(c *api.Cmd) { c.Kind, c.Hook = api.CmdFire, 1 }),
		mixed(func(c *api.Cmd) { c.Kind, c.Module = api.CmdLoad, bytes(t, adds, 1) }),
		mixed(func(c *api.Cmd) { c.Kind, c.Hook, c.Prog = api.CmdAttach, 1, 1 }),
		mixed(func(c *api.Cmd) { c.Kind, c.Hook, c.Prog = api.CmdSwap, 1, 1 }),
		mixed(func(c *api.Cmd) { c.Kind, c.Hook = api.CmdDetach, 1 }),
		mixed(func(c *api.Cmd) { c.Kind, c.Prog = api.CmdRetire, 1 }),
		mixed(func(c *api.Cmd) { c.Kind = api.CmdDrain }),
		mixed(func(c *api.Cmd) { c.Kind = api.CmdClose }),
	})
	s.Run()
	s.answered(0, api.Answer{Res: []api.Res{{}}}, api.Answer{Res: []api.Res{{Found: true, Val: 2}}}, api.Answer{Pairs: []api.Pair{{Key: 1, Val: 2}}}, api.Answer{N: 1}, api.Answer{N: 1}, api.Answer{N: 1}, api.Answer{N: 2}, api.Answer{}, api.Answer{}, api.Answer{}, api.Answer{})
}

// TestMapless: the section 'Steps'; where there are no maps each item and each walk is wrong, and no program that names one is let in.
func TestMapless(t *testing.T) {
	c := plain(1, 2, 1, 1, 1)
	c.Maps = nil
	s := set(t, c, []api.Cmd{single(api.Item{}), batch(api.Item{}), walk(0), load(bytes(t, adds, 0)), load(bytes(t, "set r0 1, exit r0"))})
	s.Run()
	wrong := api.Answer{E: api.ErrArg}
	s.answered(0, wrong, wrong, wrong, api.Answer{E: api.ErrNone}, api.Answer{N: 1})
	s.refs()
}

// TestSteps: the sections 'Steps' and 'The log'; an item, a batch, a walk: who is ready, what each step adds.
func TestSteps(t *testing.T) {
	put := func(key, val uint64) api.Item { return item(api.MapPut, key, val) }
	s := set(t, plain(1, 2, 1, 1, 2), []api.Cmd{single(put(1, 10)), batch(put(0, 1), put(1, 2), put(3, 3), put(2, 4)), walk(0)})
	const shard0, shard1 = 2, 3
	s.ready(0)
	s.turns(0)
	s.ready(shard1)
	s.says(api.Entry{What: api.MarkCall})
	s.turns(shard1)
	s.ready(0)
	s.says(api.Entry{What: api.MarkApply, Task: shard1, Item: put(1, 10)})
	s.answered(0)
	s.turns(0)
	s.says(api.Entry{What: api.MarkReturn})
	s.turns(0)
	s.says(api.Entry{What: api.MarkCall, Cmd: 1})
	s.ready(shard0, shard1)
	// The second shard is ahead of the first, and the last answer comes into the middle.
	s.turns(shard1, shard0, shard0)
	s.ready(shard0)
	s.turns(shard0)
	s.says(
		api.Entry{What: api.MarkApply, Task: shard1, Cmd: 1, Tag: 1, Item: put(1, 2), Res: api.Res{Found: true, Val: 10}},
		api.Entry{What: api.MarkApply, Task: shard0, Cmd: 1, Item: put(0, 1)},
		api.Entry{What: api.MarkApply, Task: shard0, Cmd: 1, Tag: 2, Item: put(3, 3)},
		api.Entry{What: api.MarkApply, Task: shard0, Cmd: 1, Tag: 3, Item: put(2, 4), Res: api.Res{E: api.ErrFull}},
	)
	s.ready(0)
	s.turns(0, 0)
	s.latest(0, api.Answer{Res: []api.Res{{}, {Found: true, Val: 10}, {}, {E: api.ErrFull}}})
	s.says(api.Entry{What: api.MarkReturn, Cmd: 1}, api.Entry{What: api.MarkCall, Cmd: 2})
	s.ready(shard0, shard1)
	s.turns(shard1, shard0)
	s.ready(0)
	s.turns(0)
	s.says(api.Entry{What: api.MarkReturn, Cmd: 2})
	s.latest(0, api.Answer{Pairs: []api.Pair{{Key: 0, Val: 1}, {Key: 3, Val: 3}, {Key: 1, Val: 2}}})
	s.ready()
}

// TestWalkMoments: the section 'Steps'; a walk tells each shard as it is when its owner does it, in line with all else.
func TestWalkMoments(t *testing.T) {
	put := func(key uint64) api.Cmd { return single(item(api.MapPut, key, 1)) }
	s := set(t, plain(1, 2, 1, 1, 2), []api.Cmd{walk(0)}, []api.Cmd{put(0), put(1)}, []api.Cmd{put(3)})
	s.turns(2, 0)
	s.does(1, 2)
	s.finishes(0)
	// Key 3 was ahead of the walk in the line of shard 0, key 0 behind it, and key 1 was there before its own shard was asked for, but not ahead of it.
	s.answered(0, api.Answer{Pairs: []api.Pair{{Key: 3, Val: 1}}})
}

// TestLines: the section 'Steps'; an owner does requests of several clients and workers in the order in which they were sent.
func TestLines(t *testing.T) {
	add := func(n uint64) api.Cmd { return single(item(api.MapAdd, 1, n)) }
	s := set(t, plain(1, 1, 1, 1, 2), []api.Cmd{add(1)}, []api.Cmd{add(10)}, []api.Cmd{add(100)}, []api.Cmd{load(bytes(t, adds, 0)), attach(0, 1), fire(0, 1)})
	s.does(3, 3)
	s.turns(s.workers, s.workers, s.workers, s.workers, s.workers, 2, 0)
	s.turns(s.workers, 1)
	s.passes()
	s.turns(many(s.owners, 4)...)
	worker := api.Entry{What: api.MarkApply, Task: 5, From: 4, Event: 1, Item: item(api.MapAdd, 1, 5), Res: api.Res{Found: true, Val: 106}}
	s.says(
		api.Entry{What: api.MarkApply, Task: 5, From: 2, Item: item(api.MapAdd, 1, 100), Res: api.Res{Val: 100}},
		api.Entry{What: api.MarkApply, Task: 5, From: 0, Item: item(api.MapAdd, 1, 1), Res: api.Res{Found: true, Val: 101}},
		worker,
		api.Entry{What: api.MarkApply, Task: 5, From: 1, Item: item(api.MapAdd, 1, 10), Res: api.Res{Found: true, Val: 116}},
	)
	s.ready(0, 1, 2, 4)
}

// TestManyPrograms: the section 'Steps'; the seventeenth program is refused, until one is gone.
func TestManyPrograms(t *testing.T) {
	script := slices.Repeat([]api.Cmd{load(bytes(t, adds, 0))}, 17)
	s := set(t, plain(1, 1, 1, 1, 2), append(script, retire(3), script[0], script[0]))
	s.does(0, 17)
	s.latest(0, api.Answer{E: api.ErrFull})
	s.refs(16)
	s.does(0, 2)
	s.latest(0, api.Answer{N: 17})
	s.does(0, 1)
	s.latest(0, api.Answer{E: api.ErrFull})
	s.refs(16)
}
