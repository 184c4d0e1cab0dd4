package host_test

import (
	"slices"
	"testing"

	"tappet/api"
)

// The stage of most scenes: client 0 has set it, clients 1 and 2 act in it, workers are 3 and 4, the owner is 5, the registry is 6.
const (
	one   = 3
	two   = 4
	shard = 5
	desk  = 6
)

// adds7 and asks are programs that can be told from the first: one adds 7 to the key, the other has nothing but its call in it.
const (
	adds7 = "field r2 0, map r1 0, set r3 7, call 4, exit r0"
	asks  = "map r1 0, set r2 1, call 0, exit r0"
)

// opens is a stage with two workers and one shard, on which three programs are loaded, and the first is at hook 0.
func opens(t *testing.T, first, second []api.Cmd, more ...api.Cmd) *stage {
	t.Helper()
	setup := []api.Cmd{load(bytes(t, adds, 0)), load(bytes(t, adds7, 0)), load(bytes(t, asks, 0)), attach(0, 1)}
	setup = append(setup, more...)
	s := set(t, plain(2, 1, 2, 2, 2), setup, first, second)
	s.does(0, len(setup))
	s.passes()
	return s
}

// entry is one of a run.
func entry(what api.Mark, task, event, prog, version, pc int) api.Entry {
	return api.Entry{What: what, Task: task, Event: event, Prog: prog, Version: version, Pc: pc}
}

// TestRunOfOne: the sections 'Steps' and 'The log'; an event from its acceptance to its end, step by step.
func TestRunOfOne(t *testing.T) {
	s := opens(t, []api.Cmd{fire(0, 9)}, nil)
	s.ready(1)
	s.turns(1)
	s.says(api.Entry{What: api.MarkCall, Task: 1}, api.Entry{What: api.MarkAccept, Task: 1, Event: 1}, api.Entry{What: api.MarkReturn, Task: 1, Val: 1})
	s.ready(one, two)
	if !s.Quiet() {
		t.Error("P25.4: it isn't quiet, but nobody is at an event")
	}
	s.turns(two)
	s.says(api.Entry{What: api.MarkTake, Task: two, Event: 1})
	s.ready(two)
	if s.Quiet() {
		t.Error("P25.4: it is quiet while an event was taken")
	}
	s.turns(two)
	s.says(api.Entry{What: api.MarkEnter, Task: two, Event: 1, Prog: 1, Version: 1})
	s.turns(two, two, two)
	s.says(entry(api.MarkRan, two, 1, 1, 1, 0), entry(api.MarkRan, two, 1, 1, 1, 1), entry(api.MarkRan, two, 1, 1, 1, 2))
	s.turns(two)
	ask := entry(api.MarkAsk, two, 1, 1, 1, 3)
	ask.Item = item(api.MapAdd, 9, 5)
	s.says(ask)
	s.ready(shard)
	s.turns(shard)
	s.says(api.Entry{What: api.MarkApply, Task: shard, From: two, Event: 1, Item: ask.Item, Res: api.Res{Val: 5}})
	s.ready(two)
	s.turns(two)
	back := entry(api.MarkBack, two, 1, 1, 1, 3)
	back.Res.Val = 5
	s.says(back)
	s.tallies(api.Tally{}, api.Tally{})
	s.turns(two)
	done := entry(api.MarkDone, two, 1, 1, 1, 4)
	done.Val = 5
	s.says(done)
	s.tallies(api.Tally{Runs: 1, Steps: 5, Calls: 1, Sum: 5}, api.Tally{})
	s.ready()
	if !s.Quiet() {
		t.Error("P25.4: it isn't quiet at the end")
	}
}

// TestNotes: the section 'The log'; what MarkRan and MarkNote tell; counters last from run to run, words don't.
func TestNotes(t *testing.T) {
	const text = "set r1 2, call 5, load r4 3, store r0 3, add r1 r0 r4, call 6, field r0 1, exit r0"
	fire1 := api.Cmd{Kind: api.CmdFire, Hook: 1, Event: api.Event{A: 6, B: 8}}
	s := set(t, plain(1, 1, 2, 2, 2), []api.Cmd{load(bytes(t, text)), attach(1, 1), fire1, fire1})
	s.does(0, 4)
	for event := 1; event <= 2; event++ {
		s.turns(1, 1)
		s.passes()
		s.turns(many(1, 8)...)
		with := func(e api.Entry, val uint64) api.Entry {
			e.Val = val
			return e
		}
		done := entry(api.MarkDone, 1, event, 1, 1, 7)
		done.Hook = 1
		s.says(
			entry(api.MarkRan, 1, event, 1, 1, 0),
			with(entry(api.MarkRan, 1, event, 1, 1, 1), uint64(event)),
			entry(api.MarkRan, 1, event, 1, 1, 2),
			entry(api.MarkRan, 1, event, 1, 1, 3),
			entry(api.MarkRan, 1, event, 1, 1, 4),
			with(entry(api.MarkNote, 1, event, 1, 1, 5), uint64(event)),
			entry(api.MarkRan, 1, event, 1, 1, 6),
			with(done, 8),
		)
	}
	s.tallies(api.Tally{}, api.Tally{Runs: 2, Steps: 16, Sum: 16})
}

// TestMissed: the section 'Steps'; an event finds no program, be it that there never was one, or that it was detached while the event waited or was taken.
func TestMissed(t *testing.T) {
	missed := func(s *stage, hook, event int) {
		s.t.Helper()
		s.passes()
		s.turns(one)
		s.says(api.Entry{What: api.MarkDone, Task: one, Hook: hook, Event: event})
		if v, prog, ok := s.Current(hook); v != 0 || prog != 0 || ok || !s.Quiet() {
			s.t.Errorf("hook %d: %d, %d, %v", hook, v, prog, ok)
		}
	}
	s := opens(t, []api.Cmd{fire(1, 9), fire(0, 9), detach(0), fire(0, 9)}, []api.Cmd{detach(0), attach(0, 1)})
	s.does(1, 1)
	s.turns(one)
	missed(s, 1, 1)
	s.does(1, 2)
	s.turns(one)
	missed(s, 0, 2)
	s.does(2, 1)
	s.latest(2, api.Answer{E: api.ErrNone})
	s.does(2, 1)
	s.does(1, 1)
	s.turns(one)
	s.passes()
	s.turns(one)
	s.says(api.Entry{What: api.MarkEnter, Task: one, Event: 3, Prog: 1, Version: 2})
	s.tallies(api.Tally{Missed: 1}, api.Tally{Missed: 1})

	s = opens(t, []api.Cmd{fire(0, 9)}, []api.Cmd{detach(0)})
	s.does(1, 1)
	s.turns(one)
	s.does(2, 1)
	missed(s, 0, 1)
}

// runs is that a worker goes on with a run to its end, every step by this version.
func (s *stage) runs(worker, prog, version int) {
	s.t.Helper()
	from := len(s.Log())
	for {
		if !slices.Contains(s.Ready(), worker) {
			s.turns(shard)
		}
		s.turns(worker)
		log := s.Log()
		if log[len(log)-1].What == api.MarkDone {
			break
		}
	}
	for _, e := range s.Log()[from:] {
		if e.Task == worker && (e.Prog != prog || e.Version != version) {
			s.t.Errorf("P8: %+v, want program %d by version %d", e, prog, version)
		}
	}
}

// TestSwapped: P8, the section 'Steps'; an event runs what is at its hook when a worker enters it, whole: a program that is published while it waits, or was taken; not one that is while it runs or waits for a reply, nor does it stop when its program is detached.
func TestSwapped(t *testing.T) {
	later := []api.Cmd{swap(0, 2), detach(0)}
	steps := []struct {
		worker, prog, version int
	}{{0, 2, 2}, {1, 2, 2}, {2, 1, 1}, {3, 1, 1}, {5, 1, 1}, {6, 1, 1}}
	for _, at := range steps {
		s := opens(t, []api.Cmd{fire(0, 9)}, later)
		s.does(1, 1)
		s.turns(many(one, at.worker)...)
		s.does(2, 1)
		s.latest(2, api.Answer{N: 2})
		if at.worker < 1 {
			s.turns(one)
		}
		s.runs(one, at.prog, at.version)

		if at.worker < 2 {
			continue
		}
		s = opens(t, []api.Cmd{fire(0, 9)}, later[1:])
		s.does(1, 1)
		s.turns(many(one, at.worker)...)
		s.does(2, 1)
		s.runs(one, 1, 1)
	}
}

// TestCursor: the section 'Steps'; a worker takes the event that waits longest of the first hook from its cursor on and around, and each worker has a cursor of its own.
func TestCursor(t *testing.T) {
	var script []api.Cmd
	for _, hook := range []int{2, 0, 3, 2, 0, 2} {
		script = append(script, fire(hook, 1))
	}
	s := set(t, plain(2, 1, 4, 3, 1), append(script, fire(3, 1), fire(1, 1)))
	const one, two = 1, 2
	s.does(0, 6)
	s.passes()
	take := func(task, hook, event int) {
		t.Helper()
		s.turns(task)
		s.says(api.Entry{What: api.MarkTake, Task: task, Hook: hook, Event: event})
		s.turns(task)
		s.says(api.Entry{What: api.MarkDone, Task: task, Hook: hook, Event: event})
	}
	take(one, 0, 2)
	take(one, 2, 1)
	take(two, 0, 5)
	take(one, 3, 3)
	take(one, 2, 4)
	take(two, 2, 6)
	s.ready(0)
	s.does(0, 2)
	s.passes()
	take(two, 3, 7)
	take(two, 1, 8)
	s.tallies(api.Tally{Missed: 2}, api.Tally{Missed: 1}, api.Tally{Missed: 3}, api.Tally{Missed: 2})
}

// TestRetireWhile: P9, the section 'Steps'; a retire returns only when no worker is in a run that began ahead of it, whether the run goes on or waits for a reply; where there is none, at once.
func TestRetireWhile(t *testing.T) {
	for at := range 9 {
		s := opens(t, []api.Cmd{fire(0, 9)}, []api.Cmd{swap(0, 2), retire(1), retire(1), retire(1)})
		s.does(1, 1)
		s.turns(many(one, min(at, 6))...)
		if at == 7 {
			s.turns(shard)
		}
		if at == 8 {
			s.turns(shard, one, one)
		}
		s.does(2, 1)
		s.refs(3)
		s.turns(2, desk)
		s.passes()
		if at < 2 || at == 8 {
			if !slices.Contains(s.Ready(), desk) {
				t.Fatalf("P9: nobody runs program 1, but its retire waits")
			}
		} else {
			if slices.Contains(s.Ready(), desk) || !slices.Equal(s.Retiring(), []int{1}) {
				t.Fatalf("P9: behind %d steps of the worker, program 1 runs, but its retire doesn't wait", at)
			}
			s.refs(3)
			s.runs(one, 1, 1)
			s.passes()
		}
		s.turns(desk)
		s.says(api.Entry{What: api.MarkRetired, Task: desk, Prog: 1})
		s.refs(2)
		s.turns(2)
		s.says(api.Entry{What: api.MarkReturn, Task: 2, Cmd: 1})
		s.does(2, 1)
		s.latest(2, api.Answer{E: api.ErrNone})
	}
}

// TestRetireHeld: the section 'Steps'; of a program that is retired while a run goes on nothing is published any more, and a second retire is refused; other commands go on.
func TestRetireHeld(t *testing.T) {
	s := opens(t, []api.Cmd{fire(0, 9), retire(1)}, []api.Cmd{swap(0, 2), retire(1), swap(0, 1), attach(1, 1), attach(1, 2), load(bytes(t, adds, 0))})
	s.does(1, 1)
	s.turns(one, one)
	s.does(2, 1)
	s.turns(1, desk)
	s.does(2, 5)
	s.answered(2, api.Answer{N: 2}, api.Answer{E: api.ErrBusy}, api.Answer{E: api.ErrNone}, api.Answer{E: api.ErrNone}, api.Answer{N: 3}, api.Answer{N: 4})
	s.refs(4)
	s.runs(one, 1, 1)
	s.turns(desk, 1)
	s.latest(1, api.Answer{})
	s.refs(3)
}

// TestTwoRetires: the section 'Steps'; two retires held back. Workers that are in from ahead of the first hold both; the programs are let go of in the order in which they were retired, whichever run ends first, one a step.
func TestTwoRetires(t *testing.T) {
	for _, first := range []int{one, two} {
		s := opens(t, []api.Cmd{fire(0, 9), fire(1, 9), retire(1)}, []api.Cmd{attach(1, 2), swap(0, 3), swap(1, 3), retire(2)})
		s.does(1, 2)
		s.does(2, 1)
		s.turns(one, two, one, two)
		s.does(2, 2)
		s.turns(1, desk, 2, desk)
		if late := s.Retiring(); !slices.Equal(late, []int{1, 2}) {
			t.Fatalf("Retiring: %v", late)
		}
		progs := map[int]int{one: 1, two: 2}
		s.runs(first, progs[first], progs[first])
		if slices.Contains(s.Ready(), desk) {
			t.Fatalf("P9: a retire can be finished while a worker is in from ahead of it")
		}
		s.refs(3)
		other := one + two - first
		s.runs(other, progs[other], progs[other])
		s.passes()
		s.ready(desk)
		s.turns(desk)
		s.ready(1, desk)
		s.refs(2)
		s.turns(desk, 1, 2)
		s.says(api.Entry{What: api.MarkRetired, Task: desk, Prog: 1}, api.Entry{What: api.MarkRetired, Task: desk, Prog: 2}, api.Entry{What: api.MarkReturn, Task: 1, Cmd: 2}, api.Entry{What: api.MarkReturn, Task: 2, Cmd: 3})
		s.refs(1)
	}
}

// TestSecondRetireWaits: P9; a run that began between two retires holds the second alone, and one that began behind both holds neither.
func TestSecondRetireWaits(t *testing.T) {
	s := opens(t, []api.Cmd{retire(1), fire(0, 9)}, []api.Cmd{swap(0, 3), swap(1, 3), retire(2)}, attach(1, 2), fire(0, 9), fire(1, 9))
	s.turns(one, one)
	s.does(2, 1)
	s.turns(1, desk, two, two)
	s.does(2, 1)
	s.turns(2, desk)
	s.ready(one, two)
	s.runs(one, 1, 1)
	s.passes()
	s.ready(two, desk)
	s.turns(desk)
	s.says(api.Entry{What: api.MarkRetired, Task: desk, Prog: 1})
	s.refs(2)
	s.turns(1, 1, one, one)
	s.ready(one, two)
	s.runs(two, 2, 2)
	s.passes()
	s.ready(one, desk)
	s.turns(desk)
	s.says(api.Entry{What: api.MarkRetired, Task: desk, Prog: 2})
	s.refs(1)
	s.runs(one, 3, 3)
}

// TestFinishedFirst: the section 'Steps'; the registry finishes calls that it holds back ahead of what waits in its line, in the order in which they came, passing over those that can't be finished, one a step.
func TestFinishedFirst(t *testing.T) {
	// A drain is held back behind a retire; the retire can be finished while an event waits.
	s := opens(t, []api.Cmd{drain()}, []api.Cmd{swap(0, 2), retire(1), load(nil)}, fire(0, 9))
	s.turns(one, one)
	s.does(2, 1)
	s.turns(2, desk, 1, desk)
	s.ready(one)
	s.runs(one, 1, 1)
	s.ready(desk)
	s.turns(desk)
	s.ready(2, desk)
	s.turns(2, 2)
	s.ready(desk)
	s.turns(desk)
	s.ready(1, desk)
	s.turns(desk)
	s.ready(1, 2)
	s.turns(1, 2)
	s.latest(2, api.Answer{E: api.ErrShort})

	// A drain ahead of a retire: the retire is passed on, as the drain can't be finished; behind it a command waits in the line.
	s = opens(t, []api.Cmd{fire(0, 9), drain()}, []api.Cmd{swap(0, 2), retire(1), attach(1, 2)})
	s.does(1, 1)
	s.turns(1, desk)
	s.ready(2, one, two)
	s.does(2, 1)
	s.turns(2, desk)
	s.ready(one, two, desk)
	s.passes()
	s.turns(desk)
	s.says(api.Entry{What: api.MarkRetired, Task: desk, Prog: 1})
	s.ready(2, one, two)
	s.turns(2, 2)
	s.ready(one, two, desk)
	s.turns(one)
	s.runs(one, 2, 2)
	s.passes()
	s.turns(desk)
	s.says()
	s.ready(1, desk)
	s.turns(desk)
	s.says(api.Entry{What: api.MarkPublish, Task: desk, Hook: 1, Prog: 2, Version: 3})
}

// TestDrain: P12, the section 'Steps'; a drain returns behind a moment at which no event waits and no worker is at one; that is asked when the registry has a turn.
func TestDrain(t *testing.T) {
	s := opens(t, []api.Cmd{drain(), drain()}, []api.Cmd{fire(0, 9), fire(0, 9), fire(1, 9)})
	// Nothing is under way: the registry takes it, and then finishes it.
	s.turns(1)
	s.ready(2, desk)
	s.turns(desk)
	s.ready(2, desk)
	s.says(api.Entry{What: api.MarkCall, Task: 1})
	s.turns(desk)
	s.says()
	s.turns(1)
	s.says(api.Entry{What: api.MarkReturn, Task: 1})
	// An event waits: one that is accepted behind the drain is waited for, too.
	s.does(2, 1)
	s.turns(1, desk)
	s.ready(2, one, two)
	s.turns(one)
	s.ready(2, one)
	s.does(2, 1)
	s.ready(2, one, two)
	s.runs(one, 1, 1)
	s.ready(2, one, two)
	s.turns(one)
	s.runs(one, 1, 1)
	s.ready(2, desk)
	// Once more one comes, ahead of the registry.
	s.does(2, 1)
	s.ready(one, two)
	s.turns(two)
	s.ready(two)
	s.turns(two)
	s.ready(desk)
	s.turns(desk, 1)
	s.latest(1, api.Answer{})
	s.ready()
}

// TestTwoDrains: the section 'Steps'; two drains at once, each is finished by a step of its own, in the order in which they came.
func TestTwoDrains(t *testing.T) {
	s := opens(t, []api.Cmd{drain()}, []api.Cmd{drain()}, fire(1, 9))
	s.turns(2, 1, desk, desk)
	s.ready(one, two)
	s.turns(two, two)
	s.ready(desk)
	s.turns(desk)
	s.ready(2, desk)
	s.turns(desk)
	s.ready(1, 2)
	s.turns(1, 2)
	s.answered(1, api.Answer{})
	s.answered(2, api.Answer{})
}

// TestClose: the sections 'Steps' and 'The log'; a close with events waiting at several hooks: they are dropped, hook by hook and in order, in the step that closes; the tasks end, and it returns behind them.
func TestClose(t *testing.T) {
	s := opens(t, []api.Cmd{closes(), fire(0, 1)}, []api.Cmd{fire(1, 9), fire(0, 9), fire(1, 9), fire(0, 9), drain()})
	s.does(2, 4)
	s.turns(1)
	s.passes()
	s.turns(desk)
	s.says(
		api.Entry{What: api.MarkDrop, Task: desk, Event: 2},
		api.Entry{What: api.MarkDrop, Task: desk, Event: 4},
		api.Entry{What: api.MarkDrop, Task: desk, Hook: 1, Event: 1},
		api.Entry{What: api.MarkDrop, Task: desk, Hook: 1, Event: 3},
		api.Entry{What: api.MarkClosed, Task: desk},
	)
	s.rings(api.RingCounts{Accepted: 2, Dropped: 2}, api.RingCounts{Accepted: 2, Dropped: 2})
	s.ready(2, one, two)
	s.turns(2, two)
	s.ready(one)
	s.latest(2, api.Answer{E: api.ErrClosed})
	s.passes()
	s.turns(one)
	s.says(api.Entry{What: api.MarkEnd, Task: one})
	s.ready(shard)
	s.turns(shard)
	s.says(api.Entry{What: api.MarkEnd, Task: shard})
	s.ready(desk)
	if got := s.Ended(); !slices.Equal(got, []int{one, two, shard}) || s.Quiet() {
		t.Errorf("P25.4: ended are %v", got)
	}
	s.turns(desk)
	s.says(api.Entry{What: api.MarkEnd, Task: desk})
	s.ready(1)
	s.turns(1)
	s.says(api.Entry{What: api.MarkReturn, Task: 1})
	s.turns(1)
	s.answered(1, api.Answer{}, api.Answer{E: api.ErrClosed})
	s.ended()
	s.ready()
}

// TestCloseAtWork: the section 'Steps'; a close while one worker is in a run and another one has taken an event: both go on to their ends, what is at the hook may still be entered, and only then they end.
func TestCloseAtWork(t *testing.T) {
	s := opens(t, []api.Cmd{closes()}, []api.Cmd{fire(0, 9), fire(0, 8), fire(0, 7)})
	s.does(2, 2)
	s.turns(one, one, one, one, two)
	s.does(2, 1)
	s.turns(1)
	s.passes()
	s.turns(desk)
	s.says(api.Entry{What: api.MarkDrop, Task: desk, Event: 3}, api.Entry{What: api.MarkClosed, Task: desk})
	s.ready(one, two)
	s.turns(two)
	s.says(api.Entry{What: api.MarkEnter, Task: two, Event: 2, Prog: 1, Version: 1})
	s.runs(one, 1, 1)
	s.runs(two, 1, 1)
	s.ready(one, two)
	s.turns(one, two, shard, desk, 1)
	s.latest(1, api.Answer{})
	s.ended()
	s.tallies(api.Tally{Runs: 2, Steps: 10, Calls: 2, Sum: 10}, api.Tally{})
	if ps, _ := s.Pairs(0); !slices.Equal(ps, []api.Pair{{Key: 8, Val: 5}, {Key: 9, Val: 5}}) {
		t.Errorf("P25.4: Pairs: %v", ps)
	}
}

// TestCloseFullLines: the section 'Steps'; a close with requests in an owner's line, of a client and of a worker: all are done and answered ahead of the owner's end.
func TestCloseFullLines(t *testing.T) {
	put := batch(slices.Repeat([]api.Item{item(api.MapAdd, 1, 1)}, 16)...)
	s := opens(t, []api.Cmd{closes()}, []api.Cmd{fire(0, 1), put, put})
	s.does(2, 1)
	s.turns(many(one, 6)...)
	s.turns(2, 1, desk)
	s.ready(two, shard)
	s.turns(two)
	s.ready(shard)
	for range 16 {
		s.turns(shard)
		s.ready(one, shard)
	}
	s.turns(one, one, one)
	s.ready(shard)
	s.turns(shard)
	s.ready(2, shard)
	s.turns(shard)
	s.ready(2, desk)
	s.turns(desk)
	s.ready(1, 2)
	s.turns(2, 2, 1)
	s.ended()
	all := s.Answers(2)
	if got := all[1].Res[15]; got != (api.Res{Found: true, Val: 21}) || len(all) != 3 || all[2].E != api.ErrClosed {
		t.Errorf("answers: %+v", all)
	}
}

// TestCloseHeld: the section 'Steps'; a close with a retire and a drain held back: both are finished, and answered OK, ahead of the registry's end; what waits in its line is refused.
func TestCloseHeld(t *testing.T) {
	s := set(t, plain(2, 1, 2, 2, 2), []api.Cmd{load(bytes(t, adds, 0)), load(bytes(t, adds7, 0)), attach(0, 1), fire(0, 9), drain()}, []api.Cmd{swap(0, 2), retire(1)}, []api.Cmd{closes()}, []api.Cmd{load(nil), retire(2)})
	const one, two, shard, desk = 4, 5, 6, 7
	s.does(0, 4)
	s.turns(one, one)
	s.does(1, 1)
	s.turns(0, 1, 2, 3)
	s.passes()
	s.turns(desk, desk, desk)
	s.says(api.Entry{What: api.MarkClosed, Task: desk})
	s.ready(one, two, desk)
	s.turns(desk)
	s.says()
	s.ready(3, one, two)
	s.turns(3, 3, two, one, one, one, one, shard, one, one)
	s.ready(one, desk)
	s.turns(one)
	s.ready(shard, desk)
	s.turns(shard)
	s.passes()
	s.turns(desk)
	s.says()
	s.ready(0, desk)
	s.turns(desk)
	s.says(api.Entry{What: api.MarkRetired, Task: desk, Prog: 1})
	s.ready(0, 1, desk)
	s.turns(desk)
	s.says(api.Entry{What: api.MarkEnd, Task: desk})
	s.ready(0, 1, 2)
	s.turns(2, 1, 0)
	s.latest(0, api.Answer{})
	s.latest(1, api.Answer{})
	s.answered(2, api.Answer{})
	s.answered(3, api.Answer{E: api.ErrClosed}, api.Answer{E: api.ErrClosed})
	s.refs(1)
	s.ended()
}

// TestTwoCloses: the section 'Steps'; of two closes in the registry's line the second is refused, and the first waits for the end.
func TestTwoCloses(t *testing.T) {
	for _, first := range []int{1, 2} {
		s := opens(t, []api.Cmd{closes(), closes()}, []api.Cmd{closes(), closes()})
		second := 3 - first
		s.turns(first, second)
		s.passes()
		s.turns(desk)
		s.says(api.Entry{What: api.MarkClosed, Task: desk})
		s.ready(one, two, desk)
		s.turns(desk)
		s.says()
		s.turns(second)
		s.says(api.Entry{What: api.MarkReturn, Task: second, E: api.ErrClosed})
		s.Run()
		s.answered(first, api.Answer{}, api.Answer{E: api.ErrClosed})
		s.answered(second, api.Answer{E: api.ErrClosed}, api.Answer{E: api.ErrClosed})
		s.ended()
	}
}
