package kern_test

import (
	"math"
	"math/rand"
	"slices"
	"strings"
	"testing"

	"tappet/api"
	"tappet/kern"
)

// list is what the chapter tells of a kern, in plain lists: what each task is (a letter), and who took the turns, in their order.
type list struct {
	states []byte
	taken  []int
}

// slept is the list of a new kern.
func slept(tasks int) *list {
	return &list{states: []byte(strings.Repeat("s", tasks))}
}

func (l *list) become(letter byte, tasks []int) api.Errno {
	for _, n := range tasks {
		if n < 0 || n >= len(l.states) {
			return 2
		}
	}
	was := string(l.states)
	for _, n := range tasks {
		if was[n] == 'e' {
			return 43
		}
	}
	l.states = []byte(put(was, letter, tasks...))
	return 0
}

func (l *list) set(are []bool) api.Errno {
	if len(are) != len(l.states) {
		return 2
	}
	for n, yes := range are {
		if l.states[n] == 'e' {
			continue
		}
		l.states[n] = 's'
		if yes {
			l.states[n] = 'r'
		}
	}
	return 0
}

func (l *list) pick(choice int) (int, bool) {
	able := those(string(l.states), 'r')
	if len(able) == 0 {
		return 0, false
	}
	return l.take(able[rest(choice, len(able))]), true
}

// fair strikes those that are ready off in the order in which they were picked, the latest first, till one is left; of several that never were the least stays.
func (l *list) fair() (int, bool) {
	able := those(string(l.states), 'r')
	if len(able) == 0 {
		return 0, false
	}
	for i := len(l.taken) - 1; i >= 0 && len(able) > 1; i-- {
		able = slices.DeleteFunc(able, func(n int) bool { return n == l.taken[i] })
	}
	return l.take(able[0]), true
}

func (l *list) take(n int) int {
	l.taken = append(l.taken, n)
	return n
}

// what is which call a step makes.
type what int

const (
	wake what = iota
	sleep
	end
	set
	pick
	fair
	whats
)

// step is a call; Pick takes the first of the numbers.
type step struct {
	what    what
	numbers []int
	are     []bool
}

// answer is what a step was answered, and what can be read of its kern behind it.
type answer struct {
	n            int
	ok           bool
	e            api.Errno
	turns        int
	ready, ended []int
}

// same tells whether two answers are equal.
func same(a, b answer) bool {
	return a.n == b.n && a.ok == b.ok && a.e == b.e && a.turns == b.turns && slices.Equal(a.ready, b.ready) && slices.Equal(a.ended, b.ended)
}

// play does a step on a kern.
func play(k *kern.Kern, s step) answer {
	var a answer
	switch s.what {
	case wake:
		a.e = k.Wake(s.numbers...)
	case sleep:
		a.e = k.Sleep(s.numbers...)
	case end:
		a.e = k.End(s.numbers...)
	case set:
		a.e = k.Set(s.are...)
	case pick:
		a.n, a.ok = k.Pick(s.numbers[0])
	case fair:
		a.n, a.ok = k.Fair()
	}
	a.turns, a.ready, a.ended = k.Turns(), k.Ready(), k.Ended()
	return a
}

// tell is what play must answer.
func tell(l *list, s step) answer {
	var a answer
	switch s.what {
	case wake:
		a.e = l.become('r', s.numbers)
	case sleep:
		a.e = l.become('s', s.numbers)
	case end:
		a.e = l.become('e', s.numbers)
	case set:
		a.e = l.set(s.are)
	case pick:
		a.n, a.ok = l.pick(s.numbers[0])
	case fair:
		a.n, a.ok = l.fair()
	}
	a.turns, a.ready, a.ended = len(l.taken), those(string(l.states), 'r'), those(string(l.states), 'e')
	return a
}

// waits has for each task since how many Fairs, one behind the other, it has been ready and wasn't picked.
type waits []int

// behind counts a step in, and tells whether a task has waited through as many Fairs as there are tasks.
func (w waits) behind(s step, a answer) bool {
	for n := range w {
		if !slices.Contains(a.ready, n) || s.what == pick || s.what == fair && a.ok && a.n == n {
			w[n] = 0
		} else if s.what == fair {
			w[n]++
		}
	}
	return slices.Max(w) < len(w)
}

// agree plays a script on a kern, held call by call against a list, and looks at its end at who was picked when; no task waits longer than P21.7 lets it.
func agree(t *testing.T, tasks int, steps []step) {
	t.Helper()
	k, l, w := made(t, tasks), slept(tasks), make(waits, tasks)
	for at, s := range steps {
		got, want := play(k, s), tell(l, s)
		if !same(got, want) {
			t.Fatalf("%d tasks, step %d, %v: %v, want %v", tasks, at, s, got, want)
		}
		if !w.behind(s, got) {
			t.Fatalf("%d tasks, step %d, %v: %v have waited", tasks, at, s, w)
		}
	}
	all := step{what: set, are: slices.Repeat([]bool{true}, tasks)}
	for i := range tasks + 1 {
		s := step{what: fair}
		if i == 0 {
			s = all
		}
		if got, want := play(k, s), tell(l, s); !same(got, want) {
			t.Fatalf("%d tasks, behind all steps %v, %v: %v, want %v", tasks, steps, s, got, want)
		}
	}
}

// anyTask is a task mostly, or a number of none.
func anyTask(r *rand.Rand, tasks int) int {
	if r.Intn(25) == 0 {
		wrong := strangers(tasks)
		return wrong[r.Intn(len(wrong))]
	}
	return r.Intn(tasks)
}

// anyTasks are none to five of them, or a few in which none stands twice.
func anyTasks(r *rand.Rand, tasks int) []int {
	if r.Intn(3) == 0 {
		return r.Perm(tasks)[:r.Intn(tasks+1)]
	}
	out := make([]int, r.Intn(6))
	for i := range out {
		out[i] = anyTask(r, tasks)
	}
	return out
}

// anySet says something of all tasks mostly, or of some more or less.
func anySet(r *rand.Rand, tasks int) []bool {
	many := tasks
	if r.Intn(5) == 0 {
		many = r.Intn(2*tasks + 2)
	}
	out := make([]bool, many)
	for i := range out {
		out[i] = r.Intn(3) > 0
	}
	return out
}

// anyChoice is a small one, or any number.
func anyChoice(r *rand.Rand, tasks int) int {
	switch r.Intn(10) {
	case 0:
		return int(r.Uint64())
	case 1:
		return []int{math.MinInt, math.MinInt + 1, math.MaxInt - 1, math.MaxInt}[r.Intn(4)]
	}
	return r.Intn(6*tasks) - 3*tasks
}

// anyStep is one of the six calls; an End is seldom and of one mostly, or all would have ended soon.
func anyStep(r *rand.Rand, tasks int) step {
	switch n := r.Intn(40); {
	case n < 8:
		return step{what: wake, numbers: anyTasks(r, tasks)}
	case n < 14:
		return step{what: sleep, numbers: anyTasks(r, tasks)}
	case n == 14:
		return step{what: end, numbers: []int{anyTask(r, tasks)}}
	case n == 15 && r.Intn(4) == 0:
		return step{what: end, numbers: anyTasks(r, tasks)}
	case n < 18:
		return step{what: set, are: anySet(r, tasks)}
	case n < 26:
		return step{what: pick, numbers: []int{anyChoice(r, tasks)}}
	}
	return step{what: fair}
}

// script is a random list of steps.
func script(r *rand.Rand, many, tasks int) []step {
	out := make([]step, many)
	for i := range out {
		out[i] = anyStep(r, tasks)
	}
	return out
}

// TestTold: P21.1 to P21.7; random scripts on kerns of one, two, three, a few and 64 tasks.
func TestTold(t *testing.T) {
	r := rand.New(rand.NewSource(21))
	for range 200 {
		for _, tasks := range []int{1, 2, 3, 4, 7, 64, 1 + r.Intn(64)} {
			agree(t, tasks, script(r, 150, tasks))
		}
	}
}

// TestToldWithoutEnd: P21.4, P21.5, P21.7; long random scripts in which none ends.
func TestToldWithoutEnd(t *testing.T) {
	r := rand.New(rand.NewSource(2105))
	for range 40 {
		for _, tasks := range []int{1, 2, 3, 5, 64} {
			steps := slices.DeleteFunc(script(r, 600, tasks), func(s step) bool { return s.what == end })
			agree(t, tasks, steps)
		}
	}
}

// calls are those of which TestEveryShortScript makes scripts: Wake, Sleep and End of each task, all set ready, each choice, Fair.
func calls(tasks int) []step {
	out := []step{{what: fair}, {what: set, are: slices.Repeat([]bool{true}, tasks)}}
	for n := range tasks {
		out = append(out,
			step{what: wake, numbers: []int{n}},
			step{what: sleep, numbers: []int{n}},
			step{what: end, numbers: []int{n}},
			step{what: pick, numbers: []int{n}})
	}
	return out
}

// TestEveryShortScript: P21.1 to P21.6; all scripts of so many calls, from a new kern and from one whose tasks are all ready.
func TestEveryShortScript(t *testing.T) {
	deep := []int{1: 6, 2: 5, 3: 4}
	for tasks := 1; tasks <= 3; tasks++ {
		of := calls(tasks)
		steps := []step{of[1]}
		var deeper func(left int)
		deeper = func(left int) {
			if left == 0 {
				agree(t, tasks, steps)
				agree(t, tasks, steps[1:])
				return
			}
			for _, s := range of {
				steps = append(steps, s)
				deeper(left - 1)
				steps = steps[:len(steps)-1]
			}
		}
		deeper(deep[tasks])
	}
}

// TestFairnessOfMany: P21.7; a task stays ready, behind any turns; whatever is done to the others between the calls it is picked within as many Fairs as there are tasks.
func TestFairnessOfMany(t *testing.T) {
	r := rand.New(rand.NewSource(2107))
	for range 3000 {
		tasks := []int{1, 2, 3, 5, 17, 64}[r.Intn(6)]
		k, n := at(t, strings.Repeat("r", tasks)), r.Intn(tasks)
		for range r.Intn(3 * tasks) {
			k.Pick(anyChoice(r, tasks))
		}
		if r.Intn(2) == 0 {
			picksTask(t, k, n, n)
		}
		picked := false
		for range tasks {
			disturb(t, r, k, tasks, n)
			got, ok := k.Fair()
			picked = picked || ok && got == n
		}
		if !picked {
			t.Fatalf("%d tasks: %d stayed ready and wasn't picked", tasks, n)
		}
	}
}

// disturb does something to the tasks other than n, and asks, and is refused.
func disturb(t *testing.T, r *rand.Rand, k *kern.Kern, tasks, n int) {
	t.Helper()
	others := slices.DeleteFunc(anyTasks(r, tasks), func(m int) bool { return m == n })
	switch r.Intn(7) {
	case 0, 1:
		k.Wake(others...)
	case 2:
		k.Sleep(others...)
	case 3:
		if len(others) > 0 && r.Intn(4) == 0 {
			k.End(others[0])
		}
	case 4:
		are := make([]bool, tasks)
		for i := range are {
			are[i] = i == n || r.Intn(2) == 0
		}
		sets(t, k, api.OK, are...)
	case 5:
		sleeps(t, k, api.ErrArg, n, tasks)
		sets(t, k, api.ErrArg)
	case 6:
		wakes(t, k, api.OK, n)
		k.Ready()
		k.Ended()
	}
}

// TestInTurns: rule 7; two kerns in turns, in any turns, answer as each alone.
func TestInTurns(t *testing.T) {
	r := rand.New(rand.NewSource(2170))
	for range 400 {
		tasks := [2]int{1 + r.Intn(5), 1 + r.Intn(64)}
		if r.Intn(2) == 0 {
			tasks[1] = tasks[0]
		}
		var scripts [2][]step
		var alone, turns [2][]answer
		for i := range 2 {
			scripts[i] = script(r, 80, tasks[i])
			one := made(t, tasks[i])
			for _, s := range scripts[i] {
				alone[i] = append(alone[i], play(one, s))
			}
		}
		ks := [2]*kern.Kern{made(t, tasks[0]), made(t, tasks[1])}
		for len(turns[0])+len(turns[1]) < 160 {
			i := r.Intn(2)
			if at := len(turns[i]); at < 80 {
				turns[i] = append(turns[i], play(ks[i], scripts[i][at]))
			}
		}
		for i := range 2 {
			if !slices.EqualFunc(alone[i], turns[i], same) {
				t.Fatalf("%v tasks, kern %d in turns: %v, want %v", tasks, i, turns[i], alone[i])
			}
		}
	}
}

// TestAnswersHangOnCallsAlone: rules 3 and 7; one script on two kerns, on one of them with calls between that are refused or change nothing: the same answers.
func TestAnswersHangOnCallsAlone(t *testing.T) {
	r := rand.New(rand.NewSource(2103))
	for range 100 {
		for _, tasks := range []int{1, 2, 3, 4, 64} {
			a, b := made(t, tasks), made(t, tasks)
			for _, s := range script(r, 100, tasks) {
				for range r.Intn(4) {
					idle(t, r, b, tasks)
				}
				got, want := play(b, s), play(a, s)
				if !same(got, want) {
					t.Fatalf("%d tasks, %v: %v, want %v", tasks, s, got, want)
				}
			}
		}
	}
}

// idle makes a call that changes nothing.
func idle(t *testing.T, r *rand.Rand, k *kern.Kern, tasks int) {
	t.Helper()
	c := changers()[r.Intn(3)]
	refused := func(want api.Errno, list ...int) {
		t.Helper()
		if e := c.do(k, list...); e != want {
			t.Errorf("%s(%v): %v, want %v", c.name, list, e, want)
		}
	}
	switch r.Intn(6) {
	case 0:
		refused(api.OK)
	case 1:
		refused(api.ErrArg, r.Intn(tasks), tasks)
	case 2:
		refused(api.ErrArg, -1, r.Intn(tasks))
	case 3:
		if gone := k.Ended(); len(gone) > 0 {
			refused(api.ErrClosed, append(k.Ready(), gone[r.Intn(len(gone))])...)
		}
	case 4:
		sets(t, k, api.ErrArg, make([]bool, tasks-1)...)
		sets(t, k, api.ErrArg, make([]bool, tasks+1)...)
		wakes(t, k, api.OK, k.Ready()...)
	case 5:
		if len(k.Ready()) == 0 {
			picksNone(t, k, r.Intn(9))
			fairsNone(t, k)
		}
	}
}

// FuzzTold: bytes read as a number of tasks and steps, held against a list.
func FuzzTold(f *testing.F) {
	f.Add([]byte{4, 4, 0, 2, 3, 1, 4, 5, 4, 255, 5, 5, 5, 0, 1, 4, 2, 3, 3, 1, 3, 0, 1, 3, 5})
	f.Add([]byte{2, 3, 1, 1, 5, 4, 0, 5, 2, 1, 1, 5})
	f.Add([]byte{66, 0})
	f.Add([]byte{65, 0, 3, 60, 61, 62, 4, 7, 5})
	f.Fuzz(func(t *testing.T, data []byte) {
		if len(data) == 0 {
			return
		}
		tasks := int(data[0]%68) - 1
		if tasks < 1 || tasks > 64 {
			if k, e := kern.New(tasks); k != nil || e != api.ErrArg {
				t.Fatalf("New(%d): %v, %v", tasks, k, e)
			}
			return
		}
		agree(t, tasks, readSteps(tasks, data[1:min(len(data), 400)]))
	})
}

// readSteps reads a byte as which call, and for a Wake, Sleep or End one more as how many numbers follow, a byte each; for Set a byte as which are, and whether one is left out or put in; for Pick a byte as the choice.
func readSteps(tasks int, data []byte) []step {
	next := func() int {
		if len(data) == 0 {
			return 0
		}
		c := data[0]
		data = data[1:]
		return int(c)
	}
	var out []step
	for len(data) > 0 {
		s := step{what: what(next() % int(whats))}
		switch s.what {
		case wake, sleep, end:
			for range next() % 6 {
				s.numbers = append(s.numbers, next()%(tasks+2)-1)
			}
		case set:
			c := next()
			for n := range max(0, tasks+[]int{0, 0, 1, -1}[c%4]) {
				s.are = append(s.are, c>>(n%6+2)&1 == 1)
			}
		case pick:
			s.numbers = []int{int(int8(next())) << (8 * (next() % 8))}
		}
		out = append(out, s)
	}
	return out
}
