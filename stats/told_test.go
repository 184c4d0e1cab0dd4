package stats_test

import (
	"math/big"
	"math/rand"
	"slices"
	"testing"

	"tappet/api"
	"tappet/stats"
)

// deed is what was told of: a run at a hook, or (with missed) an event that found no program there.
type deed struct {
	hook                 int
	missed               bool
	steps, calls, result uint64
}

// told is what the chapter tells of Stats: all that was told to them, in order.
type told []deed

// sum is a number of any size.
type sum struct {
	big.Int
}

// add makes it more.
func (s *sum) add(n uint64) {
	s.Add(&s.Int, new(big.Int).SetUint64(n))
}

// cut is what it is modulo 2^64.
func (s *sum) cut() uint64 {
	return new(big.Int).Mod(&s.Int, new(big.Int).Lsh(big.NewInt(1), 64)).Uint64()
}

// of is a hook's tally, reckoned without a bound and cut at the end.
func (d told) of(hook int) api.Tally {
	var runs, missed, steps, calls, results sum
	for _, one := range d {
		if one.hook != hook {
			continue
		}
		if one.missed {
			missed.add(1)
			continue
		}
		runs.add(1)
		steps.add(one.steps)
		calls.add(one.calls)
		results.add(one.result)
	}
	return api.Tally{Runs: runs.cut(), Missed: missed.cut(), Steps: steps.cut(), Calls: calls.cut(), Sum: results.cut()}
}

// all are the tallies of the four hooks.
func (d told) all() four {
	var out four
	for hook := range out {
		out[hook] = d.of(hook)
	}
	return out
}

// step is a call: a Ran at the first of its hooks, or a Missed.
type step struct {
	missed               bool
	hooks                []int
	steps, calls, result uint64
}

// tell is what a step must be answered, and puts what it tells to the list.
func (d *told) tell(s step) api.Errno {
	for _, hook := range s.hooks {
		if hook < 0 || hook > 3 {
			return 2
		}
	}
	for _, hook := range s.hooks {
		if s.missed {
			*d = append(*d, deed{hook: hook, missed: true})
		} else {
			*d = append(*d, deed{hook, false, s.steps, s.calls, s.result})
		}
	}
	return 0
}

// answer is what a step was answered, and what can be read behind it.
type answer struct {
	e      api.Errno
	of     four
	merged four
}

// play does a step on Stats; what it hands over is a copy, which must stay and is written over behind the call.
func play(t *testing.T, s *stats.Stats, p step) answer {
	t.Helper()
	var a answer
	if p.missed {
		handed := slices.Clone(p.hooks)
		a.e = s.Missed(handed...)
		if !slices.Equal(handed, p.hooks) {
			t.Fatalf("Missed(%v): the list has become %v", p.hooks, handed)
		}
		for i := range handed {
			handed[i] = 2
		}
	} else {
		a.e = s.Ran(p.hooks[0], p.steps, p.calls, p.result)
	}
	for hook := range a.of {
		tally, e := s.Of(hook)
		if e != api.OK {
			t.Fatalf("Of(%d): %v", hook, e)
		}
		a.of[hook] = tally
	}
	merged := stats.Merge(s)
	if len(merged) != 4 {
		t.Fatalf("Merge: %v", merged)
	}
	a.merged = four(merged)
	spoil(merged)
	return a
}

// turn is a step and which of several Stats it goes to.
type turn struct {
	to   int
	step step
}

// agree plays turns on so many Stats, each held call by call against a list of its own, and all of them merged against all lists.
func agree(t *testing.T, many int, turns []turn) {
	t.Helper()
	ss, ds := make([]*stats.Stats, many), make([]told, many)
	for i := range ss {
		ss[i] = stats.New()
	}
	for at, u := range turns {
		w := answer{e: ds[u.to].tell(u.step)}
		w.of = ds[u.to].all()
		w.merged = w.of
		if got := play(t, ss[u.to], u.step); got != w {
			t.Fatalf("turn %d, %v: %v, want %v", at, u, got, w)
		}
	}
	every := slices.Concat(ds...).all()
	merges(t, "all", every, ss...)
	merges(t, "all with nils", every, append(append([]*stats.Stats{nil}, ss...), nil)...)
	twice := slices.Concat(ds[0], slices.Concat(ds...)).all()
	merges(t, "the first twice", twice, append(slices.Clone(ss), ss[0])...)
	for i, s := range ss {
		want(t, "behind all", s, ds[i].all())
	}
}

// anyNumber is an edge, a small number or any.
func anyNumber(r *rand.Rand) uint64 {
	switch r.Intn(3) {
	case 0:
		return edges()[r.Intn(len(edges()))]
	case 1:
		return uint64(r.Intn(300))
	}
	return r.Uint64()
}

// anyHook is a hook mostly, or a number of none.
func anyHook(r *rand.Rand) int {
	if r.Intn(15) == 0 {
		return noHooks()[r.Intn(len(noHooks()))]
	}
	return r.Intn(4)
}

// anyStep is a Ran, or a Missed of none to seven.
func anyStep(r *rand.Rand) step {
	if r.Intn(5) < 3 {
		return step{false, []int{anyHook(r)}, anyNumber(r), anyNumber(r), anyNumber(r)}
	}
	s := step{missed: true}
	for range r.Intn(8) {
		s.hooks = append(s.hooks, anyHook(r))
	}
	return s
}

// script is a random list of steps.
func script(r *rand.Rand, steps int) []step {
	out := make([]step, steps)
	for i := range out {
		out[i] = anyStep(r)
	}
	return out
}

// TestTold: P20.1 to P20.3; random scripts on one, two and three Stats.
func TestTold(t *testing.T) {
	r := rand.New(rand.NewSource(20))
	for range 60 {
		for many := 1; many <= 3; many++ {
			var turns []turn
			for _, s := range script(r, 60) {
				turns = append(turns, turn{r.Intn(many), s})
			}
			agree(t, many, turns)
		}
	}
}

// TestEveryShortScript: P20.1 to P20.3; all scripts of four calls on one and of three on two Stats, out of Rans and Misseds at each hook and beside them.
func TestEveryShortScript(t *testing.T) {
	calls := []step{{missed: true}, {missed: true, hooks: []int{3, 0, 3}}, {missed: true, hooks: []int{1, 4}}, {hooks: []int{-1}, steps: 1, calls: 1, result: 1}}
	for hook := range 4 {
		calls = append(calls, step{false, []int{hook}, most, 1 << 63, 2}, step{missed: true, hooks: []int{hook}})
	}
	for many := 1; many <= 2; many++ {
		var turns []turn
		var deeper func(left int)
		deeper = func(left int) {
			if left == 0 {
				agree(t, many, turns)
				return
			}
			for _, s := range calls {
				for to := range many {
					turns = append(turns, turn{to, s})
					deeper(left - 1)
					turns = turns[:len(turns)-1]
				}
			}
		}
		deeper(5 - many)
	}
}

// tellAll tells some steps, in this order, each to one of the Stats.
func tellAll(t *testing.T, ss []*stats.Stats, steps []step, order, to []int) {
	t.Helper()
	for at, i := range order {
		s := ss[to[at]]
		e := api.OK
		if steps[i].missed {
			e = s.Missed(steps[i].hooks...)
		} else {
			e = s.Ran(steps[i].hooks[0], steps[i].steps, steps[i].calls, steps[i].result)
		}
		if e != api.OK {
			t.Fatalf("%v: %v", steps[i], e)
		}
	}
}

// TestAnyOrderAnyParting: P20.4; five runs and misses in all orders, parted over one, two and three Stats in all ways: Merge is the same.
func TestAnyOrderAnyParting(t *testing.T) {
	steps := []step{
		{false, []int{1}, most, 3, 1 << 63},
		{false, []int{1}, 2, most, 1 << 63},
		{false, []int{3}, 4, 5, 6},
		{missed: true, hooks: []int{1, 3, 1}},
		{false, []int{1}, 10, 20, 30},
	}
	w := rows{{}, {3, 2, 11, 22, 30}, {}, {1, 1, 4, 5, 6}}.tallies()
	for many := 1; many <= 3; many++ {
		var partings [][]int
		everyList(len(steps), []int{0, 1, 2}[:many], func(to []int) {
			if len(to) == len(steps) {
				partings = append(partings, slices.Clone(to))
			}
		})
		everyOrder(len(steps), func(order []int) {
			for _, to := range partings {
				ss := []*stats.Stats{stats.New(), stats.New(), stats.New()}[:many]
				tellAll(t, ss, steps, order, to)
				merges(t, "parted", w, ss...)
			}
		})
	}
}

// TestAnyOrderAnyPartingOfMany: P20.4; random runs and misses in random orders, parted at random over one to six Stats, which are merged in any order: the same as of a list.
func TestAnyOrderAnyPartingOfMany(t *testing.T) {
	r := rand.New(rand.NewSource(2004))
	for range 100 {
		var steps []step
		var d told
		for _, s := range script(r, 60) {
			if d.tell(s) == api.OK {
				steps = append(steps, s)
			}
		}
		w := d.all()
		for range 10 {
			ss := make([]*stats.Stats, 1+r.Intn(6))
			for i := range ss {
				ss[i] = stats.New()
			}
			to := make([]int, len(steps))
			for i := range to {
				to[i] = r.Intn(len(ss))
			}
			tellAll(t, ss, steps, r.Perm(len(steps)), to)
			r.Shuffle(len(ss), func(i, j int) { ss[i], ss[j] = ss[j], ss[i] })
			merges(t, "parted", w, ss...)
		}
	}
}

// TestOneMissedOrMany: P20.2, P20.4; a Missed of a list is as one Missed for each of it.
func TestOneMissedOrMany(t *testing.T) {
	everyList(5, []int{0, 1, 2, 3}, func(list []int) {
		a, b := stats.New(), stats.New()
		missed(t, a, api.OK, list...)
		for _, hook := range list {
			missed(t, b, api.OK, hook)
		}
		merges(t, "one by one", four(stats.Merge(a)), b)
	})
}

// TestTurns: rule 7; two Stats in turns, in any turns, answer as each alone.
func TestTurns(t *testing.T) {
	r := rand.New(rand.NewSource(2007))
	for range 200 {
		var scripts [2][]step
		var alone, turns [2][]answer
		for i := range 2 {
			scripts[i] = script(r, 60)
			one := stats.New()
			for _, s := range scripts[i] {
				alone[i] = append(alone[i], play(t, one, s))
			}
		}
		ss := [2]*stats.Stats{stats.New(), stats.New()}
		for len(turns[0])+len(turns[1]) < 120 {
			i := r.Intn(2)
			if at := len(turns[i]); at < 60 {
				turns[i] = append(turns[i], play(t, ss[i], scripts[i][at]))
			}
		}
		for i := range 2 {
			if !slices.Equal(alone[i], turns[i]) {
				t.Fatalf("Stats %d in turns: %v, want %v", i, turns[i], alone[i])
			}
		}
	}
}

// TestAnswersHangOnCallsAlone: rules 3, 5 and 7; one script on two Stats, on one of them with calls between that are refused or only ask, and with its answers spoilt: the same answers.
func TestAnswersHangOnCallsAlone(t *testing.T) {
	r := rand.New(rand.NewSource(2003))
	for range 100 {
		a, b := stats.New(), stats.New()
		for _, s := range script(r, 80) {
			for range r.Intn(4) {
				idle(t, r, b)
			}
			if got, w := play(t, b, s), play(t, a, s); got != w {
				t.Fatalf("%v: %v, want %v", s, got, w)
			}
		}
	}
}

// idle makes a call that changes nothing.
func idle(t *testing.T, r *rand.Rand, s *stats.Stats) {
	t.Helper()
	hook, no := r.Intn(4), noHooks()[r.Intn(len(noHooks()))]
	switch r.Intn(7) {
	case 0:
		missed(t, s, api.OK)
	case 1:
		missed(t, s, api.ErrArg, hook, no)
	case 2:
		missed(t, s, api.ErrArg, no, hook, hook)
	case 3:
		ran(t, s, api.ErrArg, no, anyNumber(r), anyNumber(r), anyNumber(r))
	case 4:
		spoil(stats.Merge(s, nil, s))
	case 5:
		if got, e := s.Of(no); got != (api.Tally{}) || e != api.ErrArg {
			t.Errorf("Of(%d): %v, %v", no, got, e)
		}
	case 6:
		s.Of(hook)
	}
}

// FuzzTold: bytes read as a number of Stats and turns, held against lists.
func FuzzTold(f *testing.F) {
	f.Add([]byte{2, 10, 11, 65, 4, 74, 9, 130, 1, 1, 130, 1, 3, 130, 1, 2, 200, 9})
	f.Add([]byte{0, 1, 255, 254, 253, 1, 1, 1, 1, 132, 4, 3, 2, 1, 192, 1, 66})
	f.Add([]byte{1})
	f.Fuzz(func(t *testing.T, data []byte) {
		if len(data) == 0 {
			return
		}
		many := int(data[0]%3) + 1
		agree(t, many, readTurns(many, data[1:min(len(data), 200)]))
	})
}

// readTurns reads bytes below 128 as a Ran with the three bytes that follow as its numbers, those from 128 on as a Missed of so many bytes that follow.
func readTurns(many int, data []byte) []turn {
	next := func() byte {
		if len(data) == 0 {
			return 0
		}
		c := data[0]
		data = data[1:]
		return c
	}
	number := func() uint64 {
		c := next()
		return edges()[int(c)%len(edges())] + uint64(c)/10
	}
	var out []turn
	for len(data) > 0 {
		c := next()
		u := turn{to: int(c) / 8 % many}
		if c < 128 {
			u.step = step{false, []int{int(c)%8 - 1}, number(), number(), number()}
		} else {
			u.step.missed = true
			for range c % 8 {
				u.step.hooks = append(u.step.hooks, int(next())%8-1)
			}
		}
		out = append(out, u)
	}
	return out
}
