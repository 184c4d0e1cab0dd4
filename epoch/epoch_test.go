package epoch_test

import (
	"math"
	"slices"
	"testing"

	"tappet/api"
	"tappet/epoch"
)

// made is a new clock.
func made(t *testing.T, workers int) *epoch.Clock {
	t.Helper()
	c, e := epoch.New(workers)
	if c == nil || e != api.OK {
		t.Fatalf("New(%d): %v, %v", workers, c, e)
	}
	return c
}

// at is a new clock at this now, with a worker for each of these epochs, in that epoch, or (0) not in.
func at(t *testing.T, now int, epochs ...int) *epoch.Clock {
	t.Helper()
	c := made(t, len(epochs))
	for e := 1; ; e++ {
		for w, of := range epochs {
			if of == e {
				enters(t, c, w, e, api.OK)
			}
		}
		if e == now {
			return c
		}
		advances(t, c, e+1)
	}
}

// enters fails if Enter isn't answered so.
func enters(t *testing.T, c *epoch.Clock, worker, n int, w api.Errno) {
	t.Helper()
	if got, e := c.Enter(worker); got != n || e != w {
		t.Errorf("Enter(%d): %d, %v, want %d, %v", worker, got, e, n, w)
	}
}

// leaves fails if Leave isn't answered so.
func leaves(t *testing.T, c *epoch.Clock, w api.Errno, workers ...int) {
	t.Helper()
	if e := c.Leave(workers...); e != w {
		t.Errorf("Leave(%v): %v, want %v", workers, e, w)
	}
}

// advances fails if Advance isn't answered so.
func advances(t *testing.T, c *epoch.Clock, n int) {
	t.Helper()
	if got := c.Advance(); got != n {
		t.Errorf("Advance: %d, want %d", got, n)
	}
}

// isIn fails if In isn't answered so.
func isIn(t *testing.T, c *epoch.Clock, worker, n int, ok bool) {
	t.Helper()
	if got, in := c.In(worker); got != n || in != ok {
		t.Errorf("In(%d): %d, %t, want %d, %t", worker, got, in, n, ok)
	}
}

// safe fails if one of these epochs isn't safe.
func safe(t *testing.T, c *epoch.Clock, epochs ...int) {
	t.Helper()
	for _, e := range epochs {
		if !c.Safe(e) {
			t.Errorf("Safe(%d): false", e)
		}
	}
}

// notSafe fails if one of these epochs is safe.
func notSafe(t *testing.T, c *epoch.Clock, epochs ...int) {
	t.Helper()
	for _, e := range epochs {
		if c.Safe(e) {
			t.Errorf("Safe(%d): true", e)
		}
	}
}

// oldest fails if Oldest isn't answered so.
func oldest(t *testing.T, c *epoch.Clock, n int) {
	t.Helper()
	if got := c.Oldest(); got != n {
		t.Errorf("Oldest: %d, want %d", got, n)
	}
}

// strangers are numbers of no worker where there are so many: those beside them, far ones, and such that are a worker's modulo 2^8, 2^16 or 2^32, or but for their sign.
func strangers(workers int) []int {
	out := []int{math.MinInt, math.MinInt + 1, math.MinInt32, -1 << 32, -1<<32 + 1, -65536, -256, -255, -4, -3, -2, -1,
		256, 257, 65536, 65537, math.MaxInt32, 1 << 32, 1<<32 + 1, math.MaxInt - 1, math.MaxInt}
	for w := workers; w <= 20; w++ {
		out = append(out, w)
	}
	return out
}

// probes are epochs to ask Safe of, at this now.
func probes(now int) []int {
	out := []int{math.MinInt, math.MinInt + 1, -1 << 32, -1<<32 + 3, -256, -2, -1,
		now + 100, 1 << 32, 1<<32 + 1, math.MaxInt - 1, math.MaxInt}
	for e := 0; e <= now+2; e++ {
		out = append(out, e)
	}
	return out
}

// want fails if what can be read of a clock isn't this now, and these workers in these epochs (0: not in).
func want(t *testing.T, when string, c *epoch.Clock, now int, epochs ...int) {
	t.Helper()
	if got := c.Now(); got != now {
		t.Errorf("%s: Now %d, want %d", when, got, now)
	}
	for w, e := range epochs {
		if got, in := c.In(w); got != e || in != (e > 0) {
			t.Errorf("%s: In(%d): %d, %t, want %d", when, w, got, in, e)
		}
	}
	for _, w := range strangers(len(epochs)) {
		if got, in := c.In(w); got != 0 || in {
			t.Errorf("%s: In(%d): %d, %t", when, w, got, in)
		}
	}
	some := slices.DeleteFunc(slices.Clone(epochs), func(e int) bool { return e == 0 })
	least := now
	if len(some) > 0 {
		least = slices.Min(some)
	}
	if got := c.Oldest(); got != least {
		t.Errorf("%s: Oldest %d, want %d", when, got, least)
	}
	for _, p := range probes(now) {
		less := slices.ContainsFunc(some, func(e int) bool { return e < p })
		if got := c.Safe(p); got == less {
			t.Errorf("%s: %v at %d: Safe(%d): %t", when, epochs, now, p, got)
		} else if got != (p <= c.Oldest() || len(some) == 0) {
			t.Errorf("%s: %v at %d: Safe(%d) and Oldest are at odds", when, epochs, now, p)
		}
	}
}

// everyState calls f with all ways in which so many workers can be in epochs of 1 to now, or not in.
func everyState(workers, now int, f func(epochs []int)) {
	epochs := make([]int, workers)
	var fill func(w int)
	fill = func(w int) {
		if w == workers {
			f(epochs)
			return
		}
		for e := 0; e <= now; e++ {
			epochs[w] = e
			fill(w + 1)
		}
	}
	fill(0)
}

// TestExamples: the chapter's table.
func TestExamples(t *testing.T) {
	c := made(t, 2)
	enters(t, c, 0, 1, api.OK)
	enters(t, c, 0, 0, api.ErrBusy)
	enters(t, c, 2, 0, api.ErrArg)
	advances(t, c, 2)
	enters(t, c, 1, 2, api.OK)
	safe(t, c, 1)
	notSafe(t, c, 2)
	oldest(t, c, 1)
	leaves(t, c, api.ErrArg, 0, 0)
	leaves(t, c, api.OK, 0)
	leaves(t, c, api.ErrNone, 0)
	safe(t, c, 2)
	notSafe(t, c, 3)
	leaves(t, c, api.OK, 1)
	oldest(t, c, 2)
	safe(t, c, 99)
	isIn(t, c, 1, 0, false)
}

// TestNew: P17.1; just 1 to 4 workers, at now 1, none in; else nil and ErrArg.
func TestNew(t *testing.T) {
	numbers := append(strangers(0), 0)
	for n := -300; n <= 300; n++ {
		numbers = append(numbers, n)
	}
	for _, n := range numbers {
		c, e := epoch.New(n)
		if n >= 1 && n <= 4 {
			if c == nil || e != api.OK {
				t.Fatalf("New(%d): %v, %v", n, c, e)
			}
			want(t, "a new one", c, 1, make([]int, n)...)
		} else if c != nil || e != api.ErrArg {
			t.Errorf("New(%d): %v, %v", n, c, e)
		}
	}
}

// TestNewIsNew: P17.1; a new clock is at 1 and empty, whatever was done to those made ahead of it, and two News answer two clocks.
func TestNewIsNew(t *testing.T) {
	for workers := 1; workers <= 4; workers++ {
		a := made(t, workers)
		enters(t, a, 0, 1, api.OK)
		advances(t, a, 2)
		b := made(t, workers)
		if a == b {
			t.Fatal("New answers one clock twice")
		}
		want(t, "a new one", b, 1, make([]int, workers)...)
	}
}

// TestEnter: P17.2; each worker of each clock, from every state, now and behind some Advances: where it is in, ErrBusy.
func TestEnter(t *testing.T) {
	for workers := 1; workers <= 4; workers++ {
		for now := 1; now <= 3; now++ {
			everyState(workers, now, func(epochs []int) {
				for w := range workers {
					c, behind := at(t, now, epochs...), slices.Clone(epochs)
					if epochs[w] > 0 {
						enters(t, c, w, 0, api.ErrBusy)
					} else {
						enters(t, c, w, now, api.OK)
						behind[w] = now
					}
					want(t, "behind Enter", c, now, behind...)
					enters(t, c, w, 0, api.ErrBusy)
					want(t, "behind two", c, now, behind...)
				}
			})
		}
	}
}

// TestEnterOfNoWorker: P17.2; 0 and ErrArg, and nothing changes, whether none is in, one or all.
func TestEnterOfNoWorker(t *testing.T) {
	for workers := 1; workers <= 4; workers++ {
		for _, w := range strangers(workers) {
			everyState(workers, 1, func(epochs []int) {
				c := at(t, 2, epochs...)
				enters(t, c, w, 0, api.ErrArg)
				want(t, "behind Enter", c, 2, epochs...)
			})
		}
	}
}

// TestEnterAgain: P17.2; one that left may enter again, in the now of then, over and over.
func TestEnterAgain(t *testing.T) {
	c := made(t, 3)
	for now := 1; now <= 20; now++ {
		for w := range 3 {
			enters(t, c, w, now, api.OK)
			leaves(t, c, api.OK, w)
			enters(t, c, w, now, api.OK)
		}
		want(t, "all in", c, now, now, now, now)
		advances(t, c, now+1)
		want(t, "all in still", c, now+1, now, now, now)
		leaves(t, c, api.OK, 2, 0, 1)
		want(t, "none in", c, now+1, 0, 0, 0)
	}
}

// TestBusyKeepsItsEpoch: P17.2, rule 3; a refused Enter doesn't move a worker on to a later epoch.
func TestBusyKeepsItsEpoch(t *testing.T) {
	c := made(t, 1)
	enters(t, c, 0, 1, api.OK)
	for now := 2; now <= 10; now++ {
		advances(t, c, now)
		enters(t, c, 0, 0, api.ErrBusy)
		want(t, "refused", c, now, 1)
		notSafe(t, c, now)
	}
}

// TestLeave: P17.3; none, each by itself, several at once in any order, all.
func TestLeave(t *testing.T) {
	c := at(t, 4, 1, 2, 2, 4)
	leaves(t, c, api.OK)
	leaves(t, c, api.OK, []int{}...)
	want(t, "none left", c, 4, 1, 2, 2, 4)
	leaves(t, c, api.OK, 2)
	want(t, "2 left", c, 4, 1, 2, 0, 4)
	leaves(t, c, api.OK, 3, 0)
	want(t, "3 and 0 left", c, 4, 0, 2, 0, 0)
	leaves(t, c, api.OK)
	leaves(t, c, api.OK, 1)
	want(t, "all left", c, 4, 0, 0, 0, 0)
	leaves(t, c, api.OK)
	for w := range 4 {
		leaves(t, c, api.ErrNone, w)
	}
	want(t, "none in", c, 4, 0, 0, 0, 0)
}

// TestLeaveEverybody: P17.3; every list of workers without a repeat, from every state: it is OK just where all of them are in, and then just those go.
func TestLeaveEverybody(t *testing.T) {
	for workers := 1; workers <= 4; workers++ {
		everyList(workers, 0, workers-1, func(list []int) {
			if repeats(list) {
				return
			}
			everyState(workers, 2, func(epochs []int) {
				c, behind, w := at(t, 3, epochs...), slices.Clone(epochs), api.OK
				for _, k := range list {
					behind[k] = 0
					if epochs[k] == 0 {
						w = api.ErrNone
					}
				}
				if w != api.OK {
					copy(behind, epochs)
				}
				leaves(t, c, w, list...)
				want(t, "behind Leave", c, 3, behind...)
			})
		})
	}
}

// everyList calls f with all lists of up to so many numbers, each from low to high.
func everyList(most, low, high int, f func(list []int)) {
	var list []int
	var longer func()
	longer = func() {
		f(list)
		if len(list) == most {
			return
		}
		for n := low; n <= high; n++ {
			list = append(list, n)
			longer()
			list = list[:len(list)-1]
		}
	}
	longer()
}

// repeats tells whether a number stands in a list twice.
func repeats(list []int) bool {
	for i, n := range list {
		if slices.Contains(list[:i], n) {
			return true
		}
	}
	return false
}

// TestLeaveOfAnyList: P17.3; every list of up to 4 numbers, from -1 to as many as there are workers, with each set of workers in: ErrArg ahead of ErrNone, and a refusal changes nothing.
func TestLeaveOfAnyList(t *testing.T) {
	for workers := 1; workers <= 4; workers++ {
		everyList(4, -1, workers, func(list []int) {
			wrong := repeats(list) || slices.Contains(list, -1) || slices.Contains(list, workers)
			everyState(workers, 1, func(epochs []int) {
				c := at(t, 2, epochs...)
				e := c.Leave(list...)
				none := !wrong && slices.ContainsFunc(list, func(w int) bool { return epochs[w] == 0 })
				if wrong != (e == api.ErrArg) || none != (e == api.ErrNone) || !wrong && !none && e != api.OK {
					t.Fatalf("%v in: Leave(%v): %v", epochs, list, e)
				}
				for w, was := range epochs {
					gone := e == api.OK && slices.Contains(list, w)
					if got, in := c.In(w); in != (was > 0 && !gone) || in && got != 1 || !in && got != 0 {
						t.Fatalf("%v in: behind Leave(%v), %v: In(%d): %d, %t", epochs, list, e, w, got, in)
					}
				}
				if c.Now() != 2 {
					t.Fatalf("behind Leave(%v): Now %d", list, c.Now())
				}
			})
		})
	}
}

// TestLeaveFaults: P17.3; each fault by itself, in each place among several that are in, and faults together.
func TestLeaveFaults(t *testing.T) {
	for _, one := range []struct {
		list []int
		e    api.Errno
	}{
		{[]int{4}, api.ErrArg},
		{[]int{-1}, api.ErrArg},
		{[]int{3}, api.ErrNone},
		{[]int{0, 0}, api.ErrArg},
		{[]int{-1, 0, 1}, api.ErrArg},
		{[]int{0, -1, 1}, api.ErrArg},
		{[]int{0, 1, -1}, api.ErrArg},
		{[]int{4, 0, 1}, api.ErrArg},
		{[]int{0, 4, 1}, api.ErrArg},
		{[]int{0, 1, 4}, api.ErrArg},
		{[]int{3, 0, 1}, api.ErrNone},
		{[]int{0, 3, 1}, api.ErrNone},
		{[]int{0, 1, 3}, api.ErrNone},
		{[]int{0, 0, 1}, api.ErrArg},
		{[]int{0, 1, 0}, api.ErrArg},
		{[]int{1, 0, 0}, api.ErrArg},
		{[]int{0, 1, 2, 0}, api.ErrArg},
		{[]int{3, 4}, api.ErrArg},
		{[]int{4, 3}, api.ErrArg},
		{[]int{3, 0, 1, -1}, api.ErrArg},
		{[]int{3, 0, 0}, api.ErrArg},
		{[]int{0, 0, 3}, api.ErrArg},
		{[]int{0, 3, 0}, api.ErrArg},
		{[]int{3, 3}, api.ErrArg},
		{[]int{3, 0, 3}, api.ErrArg},
		{[]int{4, 4}, api.ErrArg},
		{[]int{-1, 0, 0, 3}, api.ErrArg},
		{[]int{3, 1, 1, math.MaxInt}, api.ErrArg},
		{[]int{0, 1, 2, 3}, api.ErrNone},
		{[]int{0, 1, 2, 3, 0}, api.ErrArg},
	} {
		c := at(t, 3, 1, 2, 3, 0)
		leaves(t, c, one.e, one.list...)
		want(t, "refused", c, 3, 1, 2, 3, 0)
		leaves(t, c, api.OK, 0, 1, 2)
	}
}

// TestLeaveOfStrangers: P17.3; a number of no worker, far or near, in each place among all that are in.
func TestLeaveOfStrangers(t *testing.T) {
	for workers := 1; workers <= 4; workers++ {
		all, epochs := []int{0, 1, 2, 3}[:workers], []int{1, 2, 1, 3}[:workers]
		for _, w := range strangers(workers) {
			for place := range workers + 1 {
				c := at(t, 3, epochs...)
				leaves(t, c, api.ErrArg, slices.Insert(slices.Clone(all), place, w)...)
				want(t, "refused", c, 3, epochs...)
				leaves(t, c, api.OK, all...)
			}
		}
	}
}

// TestLeaveLong: P17.3, P1; long lists, where a worker must stand twice, and where none does but the last fault is far off.
func TestLeaveLong(t *testing.T) {
	long := make([]int, 1000000)
	for workers := 1; workers <= 4; workers++ {
		epochs := []int{1, 1, 1, 1}[:workers]
		c := at(t, 1, epochs...)
		for i := range long {
			long[i] = i % workers
		}
		leaves(t, c, api.ErrArg, long...)
		for i := range long {
			long[i] = i
		}
		leaves(t, c, api.ErrArg, long...)
		want(t, "refused", c, 1, epochs...)
	}
}

// TestLeaveKeepsNothing: rule 5; what is handed to Leave stays as it was, its spare room included, whatever it answers, and isn't kept.
func TestLeaveKeepsNothing(t *testing.T) {
	for _, list := range [][]int{{}, {2}, {2, 0}, {2, 1, 0}, {3, 2, 1, 0}, {2, 2}, {1, 0, 1}, {2, 9, 0}, {2, -1, 0}, {3}, {2, 3}, {3, 9}, {9, 3, 3}} {
		whole := append(append([]int{77, 78}, list...), 79, 80, 81)
		was, end := slices.Clone(whole), len(list)+2
		for _, room := range []int{end, end + 2, end + 3} {
			for _, epochs := range [][]int{{1, 1, 2, 0}, {3, 2, 1, 3}, {0, 0, 0, 0}} {
				c := at(t, 3, epochs...)
				e := c.Leave(whole[2:end:room]...)
				if !slices.Equal(whole, was) {
					t.Fatalf("Leave(%v), %v: left %v", list, e, whole)
				}
				if e == api.OK {
					for _, w := range list {
						epochs[w] = 0
					}
				}
				for i := range whole {
					whole[i] = 1
				}
				want(t, "the list spoilt", c, 3, epochs...)
				copy(whole, was)
			}
		}
	}
}

// TestAdvance: P17.4; one more each time, also beyond what two bytes hold, with Now in turns, and whoever is in stays so.
func TestAdvance(t *testing.T) {
	c := at(t, 2, 1, 0, 2)
	for n := 3; n <= 70000; n++ {
		if got := c.Now(); got != n-1 {
			t.Fatalf("Now: %d, want %d", got, n-1)
		}
		if got := c.Advance(); got != n {
			t.Fatalf("Advance: %d, want %d", got, n)
		}
		if got := c.Now(); got != n {
			t.Fatalf("Now behind Advance: %d, want %d", got, n)
		}
	}
	enters(t, c, 1, 70000, api.OK)
	isIn(t, c, 0, 1, true)
	isIn(t, c, 1, 70000, true)
	isIn(t, c, 2, 2, true)
	leaves(t, c, api.OK, 0, 2)
	oldest(t, c, 70000)
	safe(t, c, 0, 4464, 65535, 65536, 69999, 70000)
	notSafe(t, c, 70001, 1<<17)
	advances(t, c, 70001)
	notSafe(t, c, 70001)
	leaves(t, c, api.OK, 1)
	oldest(t, c, 70001)
	safe(t, c, 70001, 70002)
}

// TestNowIsOfAdvance: P17.4; only Advance moves now: no Enter, no Leave and no question does.
func TestNowIsOfAdvance(t *testing.T) {
	c := at(t, 5, 0, 3)
	for range 20 {
		c.Enter(0)
		c.Enter(0)
		c.Enter(7)
		c.In(0)
		c.In(-1)
		c.Safe(4)
		c.Safe(math.MaxInt)
		c.Oldest()
		c.Now()
		c.Leave(0)
		c.Leave(0)
		c.Leave(1, 1)
		c.Leave()
	}
	want(t, "behind them", c, 5, 0, 3)
	advances(t, c, 6)
}

// TestIn: P17.4; of one that is in, that isn't, that there isn't, that left, that entered again.
func TestIn(t *testing.T) {
	c := at(t, 6, 0, 4, 6)
	isIn(t, c, 0, 0, false)
	isIn(t, c, 1, 4, true)
	isIn(t, c, 2, 6, true)
	for _, w := range strangers(3) {
		isIn(t, c, w, 0, false)
	}
	leaves(t, c, api.OK, 1)
	isIn(t, c, 1, 0, false)
	advances(t, c, 7)
	isIn(t, c, 2, 6, true)
	enters(t, c, 1, 7, api.OK)
	isIn(t, c, 1, 7, true)
}

// TestSafe: P17.5; about the epoch of the one who is in longest, with none, one and all in, in equal and in unlike epochs.
func TestSafe(t *testing.T) {
	ends := []int{math.MinInt, -1, 0, 1}
	none := at(t, 5, 0, 0, 0, 0)
	safe(t, none, append(ends, 4, 5, 6, 99, math.MaxInt)...)
	oldest(t, none, 5)

	for w := range 4 {
		epochs := []int{0, 0, 0, 0}
		epochs[w] = 3
		one := at(t, 5, epochs...)
		safe(t, one, append(ends, 2, 3)...)
		notSafe(t, one, 4, 5, 6, 99, math.MaxInt)
		oldest(t, one, 3)
	}

	equal := at(t, 5, 2, 2, 2, 2)
	safe(t, equal, append(ends, 2)...)
	notSafe(t, equal, 3, 4, 5, 6, math.MaxInt)
	oldest(t, equal, 2)

	for _, epochs := range [][]int{{2, 3, 4, 5}, {5, 4, 3, 2}, {4, 2, 5, 3}, {3, 5, 2, 4}} {
		unlike := at(t, 5, epochs...)
		safe(t, unlike, append(ends, 2)...)
		notSafe(t, unlike, 3, 4, 5, 6, math.MaxInt)
		oldest(t, unlike, 2)
	}

	first := at(t, 5, 1, 0, 5, 0)
	safe(t, first, ends...)
	notSafe(t, first, 2, 3, 5, 6, math.MaxInt)
	oldest(t, first, 1)
}

// TestOldestOfNow: P17.5; with none in it goes along with now; with one that is in now it is now, and stays behind when now goes on.
func TestOldestOfNow(t *testing.T) {
	c := made(t, 2)
	for n := 1; n <= 10; n++ {
		oldest(t, c, n)
		advances(t, c, n+1)
	}
	enters(t, c, 1, 11, api.OK)
	oldest(t, c, 11)
	advances(t, c, 12)
	oldest(t, c, 11)
	enters(t, c, 0, 12, api.OK)
	oldest(t, c, 11)
	leaves(t, c, api.OK, 1)
	oldest(t, c, 12)
	leaves(t, c, api.OK, 0)
	advances(t, c, 13)
	oldest(t, c, 13)
}

// TestEveryState: P17.4, P17.5; all that can be read, of every clock with all workers in epochs of 1 to now or not in.
func TestEveryState(t *testing.T) {
	for workers := 1; workers <= 4; workers++ {
		for now := 1; now <= 5; now++ {
			everyState(workers, now, func(epochs []int) {
				want(t, "a state", at(t, now, epochs...), now, epochs...)
			})
		}
	}
}

// TestGrace: P17.6; from every state an Advance's epoch is safe just when the last of those who were in has left, in whatever order they do, and though each of them enters again.
func TestGrace(t *testing.T) {
	for workers := 1; workers <= 4; workers++ {
		everyState(workers, 2, func(epochs []int) {
			everyList(workers, 0, workers-1, func(order []int) {
				if len(order) < workers || repeats(order) {
					return
				}
				c := at(t, 2, epochs...)
				e := c.Advance()
				waits := slices.Clone(epochs)
				for _, w := range order {
					if got := slices.Max(waits) == 0; c.Safe(e) != got {
						t.Fatalf("%v, %v left of them: Safe(%d): %t", epochs, waits, e, !got)
					}
					if waits[w] > 0 {
						leaves(t, c, api.OK, w)
					}
					waits[w] = 0
					if n, e := c.Enter(w); n != 3 || e != api.OK {
						t.Fatalf("Enter(%d): %d, %v", w, n, e)
					}
				}
				safe(t, c, e)
			})
		})
	}
}

// TestSafeForEver: P17.6; once an Advance's epoch is safe, nothing that follows makes it unsafe: not those who enter ahead of the next Advance, nor behind it, nor those that are refused.
func TestSafeForEver(t *testing.T) {
	c := at(t, 1, 1, 0, 1)
	e := c.Advance()
	enters(t, c, 1, 2, api.OK)
	notSafe(t, c, e)
	leaves(t, c, api.OK, 2)
	notSafe(t, c, e)
	enters(t, c, 2, 2, api.OK)
	notSafe(t, c, e)
	leaves(t, c, api.OK, 0)
	safe(t, c, e)
	enters(t, c, 0, 2, api.OK)
	safe(t, c, e)
	for n := 3; n <= 50; n++ {
		enters(t, c, n%3, 0, api.ErrBusy)
		advances(t, c, n)
		safe(t, c, e)
		leaves(t, c, api.OK, n%3)
		leaves(t, c, api.ErrNone, n%3)
		safe(t, c, e)
		enters(t, c, n%3, n, api.OK)
		safe(t, c, e)
	}
}

// TestGraces: P17.6; several Advances, each with its own who were in: a later epoch is safe only when the earlier ones are.
func TestGraces(t *testing.T) {
	c := made(t, 3)
	enters(t, c, 0, 1, api.OK)
	advances(t, c, 2)
	enters(t, c, 1, 2, api.OK)
	advances(t, c, 3)
	enters(t, c, 2, 3, api.OK)
	advances(t, c, 4)
	notSafe(t, c, 2, 3, 4)
	leaves(t, c, api.OK, 1)
	notSafe(t, c, 2, 3, 4)
	leaves(t, c, api.OK, 0)
	safe(t, c, 2, 3)
	notSafe(t, c, 4)
	enters(t, c, 0, 4, api.OK)
	notSafe(t, c, 4)
	leaves(t, c, api.OK, 2)
	safe(t, c, 2, 3, 4)
	notSafe(t, c, 5)
	advances(t, c, 5)
	notSafe(t, c, 5)
	safe(t, c, 2, 3, 4)
}

// TestApart: rule 7; what is done to one clock isn't seen in another.
func TestApart(t *testing.T) {
	a, b := made(t, 2), made(t, 3)
	enters(t, a, 0, 1, api.OK)
	want(t, "the other", b, 1, 0, 0, 0)
	advances(t, a, 2)
	enters(t, a, 1, 2, api.OK)
	want(t, "the other", b, 1, 0, 0, 0)
	enters(t, b, 2, 1, api.OK)
	enters(t, b, 0, 1, api.OK)
	want(t, "the one", a, 2, 1, 2)
	leaves(t, b, api.OK, 0)
	advances(t, b, 2)
	advances(t, b, 3)
	want(t, "the one", a, 2, 1, 2)
	leaves(t, a, api.OK, 0, 1)
	want(t, "the other", b, 3, 0, 0, 1)
}
