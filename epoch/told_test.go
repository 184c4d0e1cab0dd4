package epoch_test

import (
	"math"
	"math/rand"
	"slices"
	"testing"

	"tappet/api"
	"tappet/epoch"
)

// stay is a worker's being in, from an Enter on.
type stay struct {
	worker, epoch int
}

// grace is an Advance: its epoch, and those stays that it found and that haven't ended since.
type grace struct {
	epoch int
	waits []stay
}

// list is what the chapter tells of a clock, in plain lists: who is in, as they entered, and all Advances.
type list struct {
	workers, now int
	in           []stay
	graces       []grace
}

func (l *list) enter(worker int) (int, api.Errno) {
	if worker < 0 || worker >= l.workers {
		return 0, 2
	}
	if _, in := l.of(worker); in {
		return 0, 42
	}
	l.in = append(l.in, stay{worker, l.now})
	return l.now, 0
}

func (l *list) leave(workers []int) api.Errno {
	for _, w := range workers {
		if w < 0 || w >= l.workers {
			return 2
		}
	}
	if repeats(workers) {
		return 2
	}
	for _, w := range workers {
		if _, in := l.of(w); !in {
			return 41
		}
	}
	goes := func(s stay) bool { return slices.Contains(workers, s.worker) }
	l.in = slices.DeleteFunc(l.in, goes)
	for i := range l.graces {
		l.graces[i].waits = slices.DeleteFunc(l.graces[i].waits, goes)
	}
	return 0
}

func (l *list) advance() int {
	l.now++
	l.graces = append(l.graces, grace{l.now, slices.Clone(l.in)})
	return l.now
}

func (l *list) of(worker int) (int, bool) {
	for _, s := range l.in {
		if s.worker == worker {
			return s.epoch, true
		}
	}
	return 0, false
}

func (l *list) safe(epoch int) bool {
	for _, s := range l.in {
		if s.epoch < epoch {
			return false
		}
	}
	return true
}

// oldest is the epoch of the first one: those who are in stand as they entered, and now only rises.
func (l *list) oldest() int {
	if len(l.in) == 0 {
		return l.now
	}
	return l.in[0].epoch
}

// what is which call a step makes.
type what int

const (
	enter what = iota
	leave
	advance
	whats
)

// step is a call; Enter takes the first of the workers.
type step struct {
	what    what
	workers []int
}

// answer is what a step was answered, and what can be read of its clock behind it.
type answer struct {
	n           int
	e           api.Errno
	now, oldest int
	in          []int
	safe        []bool
}

// same tells whether two answers are equal.
func same(a, b answer) bool {
	return a.n == b.n && a.e == b.e && a.now == b.now && a.oldest == b.oldest && slices.Equal(a.in, b.in) && slices.Equal(a.safe, b.safe)
}

// asked are the workers and strangers of which a step's answer tells where they are.
func asked() []int {
	return []int{math.MinInt, -1, 0, 1, 2, 3, 4, 5, 1 << 32, math.MaxInt}
}

// near are the epochs of which a step's answer tells whether they are safe: the ends, and those about now and about Oldest.
func near(now, oldest int) []int {
	return []int{math.MinInt, -1, 0, 1, 2, oldest - 1, oldest, oldest + 1, now - 1, now, now + 1, 1<<32 + 1, math.MaxInt}
}

// placed is an In's answer as one number, -1 where its two halves are at odds.
func placed(n int, in bool) int {
	if in != (n > 0) {
		return -1
	}
	return n
}

// play does a step on a clock.
func play(c *epoch.Clock, s step) answer {
	var a answer
	switch s.what {
	case enter:
		a.n, a.e = c.Enter(s.workers[0])
	case leave:
		a.e = c.Leave(s.workers...)
	case advance:
		a.n = c.Advance()
	}
	a.now, a.oldest = c.Now(), c.Oldest()
	for _, w := range asked() {
		a.in = append(a.in, placed(c.In(w)))
	}
	for _, e := range near(a.now, a.oldest) {
		a.safe = append(a.safe, c.Safe(e))
	}
	return a
}

// tell is what play must answer.
func tell(l *list, s step) answer {
	var a answer
	switch s.what {
	case enter:
		a.n, a.e = l.enter(s.workers[0])
	case leave:
		a.e = l.leave(s.workers)
	case advance:
		a.n = l.advance()
	}
	a.now, a.oldest = l.now, l.oldest()
	for _, w := range asked() {
		a.in = append(a.in, placed(l.of(w)))
	}
	for _, e := range near(a.now, a.oldest) {
		a.safe = append(a.safe, l.safe(e))
	}
	return a
}

// lawful fails where Safe and Oldest are at odds (P17.5), or an Advance's epoch is safe though one that it found is in still, or isn't though none is (P17.6).
func lawful(t *testing.T, c *epoch.Clock, l *list) {
	t.Helper()
	first := c.Oldest()
	for e := -1; e <= l.now+1; e++ {
		if c.Safe(e) != (e <= first || len(l.in) == 0) {
			t.Fatalf("%v at %d: Oldest %d, Safe(%d): %t", l.in, l.now, first, e, c.Safe(e))
		}
	}
	for _, g := range l.graces {
		if c.Safe(g.epoch) != (len(g.waits) == 0) {
			t.Fatalf("Advance to %d waits for %v: Safe: %t", g.epoch, g.waits, c.Safe(g.epoch))
		}
	}
}

// agree plays a script on a clock, held call by call against a list; an epoch that was safe behind its Advance is so at every step that follows.
func agree(t *testing.T, workers int, steps []step) {
	t.Helper()
	c, l := made(t, workers), &list{workers: workers, now: 1}
	var past []int
	for at, s := range steps {
		got, w := play(c, s), tell(l, s)
		if !same(got, w) {
			t.Fatalf("%d workers, step %d, %v: %v, want %v", workers, at, s, got, w)
		}
		lawful(t, c, l)
		for _, e := range past {
			if !c.Safe(e) {
				t.Fatalf("%d workers, step %d, %v: %d was safe and isn't", workers, at, s, e)
			}
		}
		for _, g := range l.graces {
			if c.Safe(g.epoch) && !slices.Contains(past, g.epoch) {
				past = append(past, g.epoch)
			}
		}
	}
}

// anyWorker is a worker mostly, or a number of none.
func anyWorker(r *rand.Rand, workers int) int {
	if r.Intn(15) == 0 {
		wrong := strangers(workers)
		return wrong[r.Intn(len(wrong))]
	}
	return r.Intn(workers)
}

// anyStep is an Enter, a Leave of none to five (mostly of one), or an Advance.
func anyStep(r *rand.Rand, workers int) step {
	switch r.Intn(9) {
	case 0, 1:
		return step{what: advance}
	case 2, 3, 4, 5:
		return step{what: enter, workers: []int{anyWorker(r, workers)}}
	case 6:
		s := step{what: leave}
		for range r.Intn(6) {
			s.workers = append(s.workers, anyWorker(r, workers))
		}
		return s
	case 7:
		return step{what: leave, workers: r.Perm(workers)[:1+r.Intn(workers)]}
	}
	return step{what: leave, workers: []int{anyWorker(r, workers)}}
}

// script is a random list of steps.
func script(r *rand.Rand, many, workers int) []step {
	out := make([]step, many)
	for i := range out {
		out[i] = anyStep(r, workers)
	}
	return out
}

// TestTold: P17.1 to P17.6; random scripts on clocks of each number of workers.
func TestTold(t *testing.T) {
	r := rand.New(rand.NewSource(17))
	for range 300 {
		for workers := 1; workers <= 4; workers++ {
			agree(t, workers, script(r, 150, workers))
		}
	}
}

// TestEveryShortScript: P17.1 to P17.6; all scripts of so many calls: an Enter and a Leave of each worker, a Leave of all, an Advance.
func TestEveryShortScript(t *testing.T) {
	deep := []int{1: 8, 2: 6, 3: 5, 4: 5}
	for workers := 1; workers <= 4; workers++ {
		calls := []step{{what: advance}, {what: leave, workers: []int{3, 2, 1, 0}[4-workers:]}}
		for w := range workers {
			calls = append(calls, step{what: enter, workers: []int{w}})
			if workers > 1 {
				calls = append(calls, step{what: leave, workers: []int{w}})
			}
		}
		var steps []step
		var deeper func(left int)
		deeper = func(left int) {
			if left == 0 {
				agree(t, workers, steps)
				return
			}
			for _, s := range calls {
				steps = append(steps, s)
				deeper(left - 1)
				steps = steps[:len(steps)-1]
			}
		}
		deeper(deep[workers])
	}
}

// TestTurns: rule 7; two clocks in turns, in any turns, answer as each alone.
func TestTurns(t *testing.T) {
	r := rand.New(rand.NewSource(1707))
	for range 500 {
		workers := [2]int{1 + r.Intn(4), 1 + r.Intn(4)}
		if r.Intn(2) == 0 {
			workers[1] = workers[0]
		}
		var scripts [2][]step
		var alone, turns [2][]answer
		for i := range 2 {
			scripts[i] = script(r, 80, workers[i])
			one := made(t, workers[i])
			for _, s := range scripts[i] {
				alone[i] = append(alone[i], play(one, s))
			}
		}
		cs := [2]*epoch.Clock{made(t, workers[0]), made(t, workers[1])}
		for len(turns[0])+len(turns[1]) < 160 {
			i := r.Intn(2)
			if at := len(turns[i]); at < 80 {
				turns[i] = append(turns[i], play(cs[i], scripts[i][at]))
			}
		}
		for i := range 2 {
			if !slices.EqualFunc(alone[i], turns[i], same) {
				t.Fatalf("%v workers, clock %d in turns: %v, want %v", workers, i, turns[i], alone[i])
			}
		}
	}
}

// TestAnswersHangOnCallsAlone: rules 3 and 7; one script on two clocks, on one of them with calls between that are refused or only ask: the same answers.
func TestAnswersHangOnCallsAlone(t *testing.T) {
	r := rand.New(rand.NewSource(1703))
	for range 100 {
		for workers := 1; workers <= 4; workers++ {
			a, b := made(t, workers), made(t, workers)
			for _, s := range script(r, 100, workers) {
				for range r.Intn(4) {
					idle(t, r, b, workers)
				}
				got, w := play(b, s), play(a, s)
				if !same(got, w) {
					t.Fatalf("%d workers, %v: %v, want %v", workers, s, got, w)
				}
			}
		}
	}
}

// idle makes a call that changes nothing.
func idle(t *testing.T, r *rand.Rand, c *epoch.Clock, workers int) {
	t.Helper()
	w := r.Intn(workers)
	switch _, in := c.In(w); r.Intn(6) {
	case 0:
		leaves(t, c, api.OK)
	case 1:
		leaves(t, c, api.ErrArg, w, w)
	case 2:
		leaves(t, c, api.ErrArg, w, workers)
	case 3:
		enters(t, c, -1, 0, api.ErrArg)
	case 4:
		c.Safe(r.Intn(20))
		c.Oldest()
	case 5:
		if in {
			enters(t, c, w, 0, api.ErrBusy)
		} else {
			leaves(t, c, api.ErrNone, w)
		}
	}
}

// FuzzTold: bytes read as a number of workers and steps, held against a list.
func FuzzTold(f *testing.F) {
	f.Add([]byte{2, 0, 0, 0, 2, 200, 1, 64, 80, 0, 64, 1, 65})
	f.Add([]byte{4, 0, 1, 2, 3, 200, 67, 3, 2, 1, 0, 200, 1, 66, 1, 9})
	f.Add([]byte{5})
	f.Fuzz(func(t *testing.T, data []byte) {
		if len(data) == 0 {
			return
		}
		workers := int(data[0]%8) - 1
		if workers < 1 || workers > 4 {
			if c, e := epoch.New(workers); c != nil || e != api.ErrArg {
				t.Fatalf("New(%d): %v, %v", workers, c, e)
			}
			return
		}
		agree(t, workers, readSteps(data[1:min(len(data), 400)]))
	})
}

// readSteps reads bytes below 64 as an Enter, those from 192 on as an Advance, and the others as a Leave of so many bytes that follow.
func readSteps(data []byte) []step {
	var out []step
	for i := 0; i < len(data); i++ {
		switch c := data[i]; {
		case c < 64:
			out = append(out, step{what: enter, workers: []int{int(c)%8 - 1}})
		case c >= 192:
			out = append(out, step{what: advance})
		default:
			s := step{what: leave}
			for range c % 6 {
				if i+1 < len(data) {
					i++
					s.workers = append(s.workers, int(data[i])%8-1)
				}
			}
			out = append(out, s)
		}
	}
	return out
}
