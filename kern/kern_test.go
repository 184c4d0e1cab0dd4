package kern_test

import (
	"math"
	"slices"
	"strings"
	"testing"

	"tappet/api"
	"tappet/kern"
)

// made is a new kern.
func made(t *testing.T, tasks int) *kern.Kern {
	t.Helper()
	k, e := kern.New(tasks)
	if k == nil || e != api.OK {
		t.Fatalf("New(%d): %v, %v", tasks, k, e)
	}
	return k
}

// upTo are the numbers from 0 on, so many.
func upTo(many int) []int {
	out := make([]int, many)
	for n := range out {
		out[n] = n
	}
	return out
}

// those are the places at which this letter stands in a text.
func those(states string, letter byte) []int {
	var out []int
	for n := range len(states) {
		if states[n] == letter {
			out = append(out, n)
		}
	}
	return out
}

// at is a kern with a task for each letter (r: ready, s: asleep, e: has ended), behind turns of these tasks in this order.
func at(t *testing.T, states string, picks ...int) *kern.Kern {
	t.Helper()
	k := made(t, len(states))
	wakes(t, k, api.OK, upTo(len(states))...)
	for _, p := range picks {
		picksTask(t, k, p, p)
	}
	sleeps(t, k, api.OK, those(states, 's')...)
	ends(t, k, api.OK, those(states, 'e')...)
	is(t, "made so", k, len(picks), states)
	return k
}

// wakes fails if Wake isn't answered so.
func wakes(t *testing.T, k *kern.Kern, want api.Errno, tasks ...int) {
	t.Helper()
	if e := k.Wake(tasks...); e != want {
		t.Errorf("Wake(%v): %v, want %v", tasks, e, want)
	}
}

// sleeps fails if Sleep isn't answered so.
func sleeps(t *testing.T, k *kern.Kern, want api.Errno, tasks ...int) {
	t.Helper()
	if e := k.Sleep(tasks...); e != want {
		t.Errorf("Sleep(%v): %v, want %v", tasks, e, want)
	}
}

// ends fails if End isn't answered so.
func ends(t *testing.T, k *kern.Kern, want api.Errno, tasks ...int) {
	t.Helper()
	if e := k.End(tasks...); e != want {
		t.Errorf("End(%v): %v, want %v", tasks, e, want)
	}
}

// sets fails if Set isn't answered so.
func sets(t *testing.T, k *kern.Kern, want api.Errno, are ...bool) {
	t.Helper()
	if e := k.Set(are...); e != want {
		t.Errorf("Set(%v): %v, want %v", are, e, want)
	}
}

// picksTask fails if Pick doesn't give a turn to this task.
func picksTask(t *testing.T, k *kern.Kern, choice, want int) {
	t.Helper()
	turns := k.Turns()
	if n, ok := k.Pick(choice); n != want || !ok {
		t.Errorf("Pick(%d): %d, %t, want %d", choice, n, ok, want)
	}
	if got := k.Turns(); got != turns+1 {
		t.Errorf("Pick(%d): %d turns behind %d", choice, got, turns)
	}
}

// picksNone fails if Pick gives a turn.
func picksNone(t *testing.T, k *kern.Kern, choice int) {
	t.Helper()
	turns := k.Turns()
	if n, ok := k.Pick(choice); n != 0 || ok || k.Turns() != turns {
		t.Errorf("Pick(%d): %d, %t, %d turns behind %d, want none", choice, n, ok, k.Turns(), turns)
	}
}

// fairs fails if Fair doesn't give its turns to these tasks, one behind the other.
func fairs(t *testing.T, k *kern.Kern, tasks ...int) {
	t.Helper()
	for at, want := range tasks {
		turns := k.Turns()
		if n, ok := k.Fair(); n != want || !ok {
			t.Errorf("Fair, %d of %v: %d, %t", at, tasks, n, ok)
		}
		if got := k.Turns(); got != turns+1 {
			t.Errorf("Fair: %d turns behind %d", got, turns)
		}
	}
}

// fairsNone fails if Fair gives a turn.
func fairsNone(t *testing.T, k *kern.Kern) {
	t.Helper()
	turns := k.Turns()
	if n, ok := k.Fair(); n != 0 || ok || k.Turns() != turns {
		t.Errorf("Fair: %d, %t, %d turns behind %d, want none", n, ok, k.Turns(), turns)
	}
}

// is fails if what can be read of a kern isn't so many turns and tasks in these states, asked twice.
func is(t *testing.T, when string, k *kern.Kern, turns int, states string) {
	t.Helper()
	for range 2 {
		if got := k.Turns(); got != turns {
			t.Errorf("%s: Turns %d, want %d", when, got, turns)
		}
		if got := k.Ready(); !slices.Equal(got, those(states, 'r')) {
			t.Errorf("%s: Ready %v, want those of %s", when, got, states)
		}
		if got := k.Ended(); !slices.Equal(got, those(states, 'e')) {
			t.Errorf("%s: Ended %v, want those of %s", when, got, states)
		}
	}
}

// settle wakes all that can be woken and tells what that answers and whom Fair picks then, twice as often as there are tasks: so it shows who was picked when.
func settle(k *kern.Kern, tasks int) []int {
	out := []int{int(k.Set(make([]bool, tasks)...))}
	for n := range tasks {
		out = append(out, int(k.Wake(n)))
	}
	for range 2 * tasks {
		n, ok := k.Fair()
		if !ok {
			n = -1 - n
		}
		out = append(out, n)
	}
	return append(out, k.Turns())
}

// settlesAs fails if two kerns of so many tasks don't settle alike.
func settlesAs(t *testing.T, when string, a, b *kern.Kern, tasks int) {
	t.Helper()
	if got, want := settle(a, tasks), settle(b, tasks); !slices.Equal(got, want) {
		t.Errorf("%s: settles as %v, want %v", when, got, want)
	}
}

// strangers are numbers of no task where there are so many: those beside them, far ones, and such that are a task's modulo 64, 2^8, 2^16 or 2^32, or but for their sign.
func strangers(tasks int) []int {
	out := []int{math.MinInt, math.MinInt + 1, math.MinInt32, -1 << 32, -1<<32 + 1, -65536, -256, -255, -128, -65, -64, -63, -3, -2, -1,
		tasks, tasks + 1, 2 * tasks, 64, 65, 128, 256, 257, 65536, 65537, math.MaxInt32, 1 << 32, 1<<32 + 1, math.MaxInt - 1, math.MaxInt}
	slices.Sort(out)
	return slices.Compact(out)
}

// everyState calls f with all states of so many tasks.
func everyState(tasks int, f func(states string)) {
	var fill func(states string)
	fill = func(states string) {
		if len(states) == tasks {
			f(states)
			return
		}
		for _, letter := range []string{"r", "s", "e"} {
			fill(states + letter)
		}
	}
	fill("")
}

// everyList calls f with all lists of up to so many numbers, each from low to high.
func everyList(most, low, high int, f func(list []int)) {
	var list []int
	var longer func()
	longer = func() {
		f(list)
		if len(list) == most {
			return
		}
		for n := low; n <= high; n++ {
			list = append(list, n)
			longer()
			list = list[:len(list)-1]
		}
	}
	longer()
}

// put is these states with a letter in the place of each of these tasks.
func put(states string, letter byte, tasks ...int) string {
	out := []byte(states)
	for _, n := range tasks {
		out[n] = letter
	}
	return string(out)
}

// changer is one of the three calls that make something of tasks, and the letter of what they are behind it.
type changer struct {
	name   string
	letter byte
	do     func(*kern.Kern, ...int) api.Errno
}

func changers() []changer {
	return []changer{
		{"Wake", 'r', (*kern.Kern).Wake},
		{"Sleep", 's', (*kern.Kern).Sleep},
		{"End", 'e', (*kern.Kern).End},
	}
}

// some are turns that tasks of a kern of so many have taken, such that some were picked twice, and some (of more than three) never.
func some(tasks int) []int {
	return []int{2 % tasks, 0, 2 % tasks, tasks / 2, 0}
}

// TestExamples: the chapter's table.
func TestExamples(t *testing.T) {
	k := made(t, 3)
	picksNone(t, k, 0)
	wakes(t, k, api.OK, 2, 0)
	is(t, "woken", k, 0, "rsr")
	picksTask(t, k, 5, 2)
	picksTask(t, k, -1, 2)
	is(t, "picked", k, 2, "rsr")
	fairs(t, k, 0, 2, 0)
	wakes(t, k, api.ErrArg, 3)
	ends(t, k, api.OK, 2, 0, 2)
	wakes(t, k, api.ErrClosed, 2)
	is(t, "ended", k, 5, "ese")
	fairsNone(t, k)
	sets(t, k, api.OK, true, true, true)
	is(t, "set", k, 5, "ere")
	sets(t, k, api.ErrArg, true)
	is(t, "refused", k, 5, "ere")
}

// TestNew: P21.1; just 1 to 64 tasks, all asleep, no turn taken; else nil and ErrArg.
func TestNew(t *testing.T) {
	numbers := append(strangers(0), strangers(64)...)
	for n := -300; n <= 300; n++ {
		numbers = append(numbers, n)
	}
	for _, n := range numbers {
		k, e := kern.New(n)
		if n < 1 || n > 64 {
			if k != nil || e != api.ErrArg {
				t.Errorf("New(%d): %v, %v", n, k, e)
			}
			continue
		}
		if k == nil || e != api.OK {
			t.Fatalf("New(%d): %v, %v", n, k, e)
		}
		is(t, "a new one", k, 0, strings.Repeat("s", n))
		picksNone(t, k, 0)
		fairsNone(t, k)
		is(t, "a new one still", k, 0, strings.Repeat("s", n))
		wakes(t, k, api.ErrArg, n)
		wakes(t, k, api.OK, n-1)
		fairs(t, k, n-1, n-1)
	}
}

// TestNewIsNew: P21.1; a new kern sleeps, has taken no turn and has picked nobody, whatever was done to those made ahead of it, and two News answer two kerns.
func TestNewIsNew(t *testing.T) {
	for _, tasks := range []int{1, 2, 3, 64} {
		a := at(t, strings.Repeat("r", tasks), some(tasks)...)
		ends(t, a, api.OK, tasks-1)
		b := made(t, tasks)
		if a == b {
			t.Fatal("New answers one kern twice")
		}
		is(t, "a new one", b, 0, strings.Repeat("s", tasks))
		wakes(t, b, api.OK, upTo(tasks)...)
		fairs(t, b, upTo(tasks)...)
	}
}

// TestOne: P21.2; each task of each kern by itself, from every state: ErrClosed just where it has ended, else just it changes.
func TestOne(t *testing.T) {
	for tasks := 1; tasks <= 4; tasks++ {
		everyState(tasks, func(states string) {
			for _, c := range changers() {
				for n := range tasks {
					k, behind, want := at(t, states, some(tasks)...), put(states, c.letter, n), api.OK
					if states[n] == 'e' {
						behind, want = states, api.ErrClosed
					}
					if e := c.do(k, n); e != want {
						t.Fatalf("%s: %s(%d): %v, want %v", states, c.name, n, e, want)
					}
					is(t, c.name, k, 5, behind)
					settlesAs(t, c.name, k, at(t, behind, some(tasks)...), tasks)
				}
			}
		})
	}
}

// TestOneOf64: P21.2; each task of the greatest kern by itself.
func TestOneOf64(t *testing.T) {
	for n := range 64 {
		states := strings.Repeat("rse", 22)[:64]
		for _, c := range changers() {
			k, behind, want := at(t, states, some(64)...), put(states, c.letter, n), api.OK
			if states[n] == 'e' {
				behind, want = states, api.ErrClosed
			}
			if e := c.do(k, n); e != want {
				t.Errorf("%s(%d): %v, want %v", c.name, n, e, want)
			}
			is(t, c.name, k, 5, behind)
		}
	}
}

// TestAnyList: P21.2; every short list of numbers from -1 to as many as there are tasks, from every state: ErrArg ahead of ErrClosed, a refusal changes nothing, one may stand there twice.
func TestAnyList(t *testing.T) {
	for tasks, most := range []int{1: 5, 2: 4, 3: 4, 4: 3} {
		if tasks == 0 {
			continue
		}
		everyState(tasks, func(states string) {
			everyList(most, -1, tasks, func(list []int) {
				for _, c := range changers() {
					takesList(t, c, states, list)
				}
			})
		})
	}
}

// takesList fails if a call with this list doesn't go as P21.2 says.
func takesList(t *testing.T, c changer, states string, list []int) {
	t.Helper()
	behind, want := states, api.OK
	switch {
	case slices.Contains(list, -1) || slices.Contains(list, len(states)):
		want = api.ErrArg
	case slices.ContainsFunc(list, func(n int) bool { return states[n] == 'e' }):
		want = api.ErrClosed
	default:
		behind = put(states, c.letter, list...)
	}
	k := at(t, states, some(len(states))...)
	if e := c.do(k, list...); e != want {
		t.Fatalf("%s: %s(%v): %v, want %v", states, c.name, list, e, want)
	}
	is(t, c.name, k, 5, behind)
	if t.Failed() {
		t.Fatalf("%s: %s(%v)", states, c.name, list)
	}
}

// TestLists: P21.2; each fault by itself, in each place, faults together in either order, twice the same, all, none.
func TestLists(t *testing.T) {
	const states = "rsere"
	for _, one := range []struct {
		list []int
		e    api.Errno
	}{
		{nil, api.OK},
		{[]int{}, api.OK},
		{[]int{0}, api.OK},
		{[]int{3, 1, 0}, api.OK},
		{[]int{1, 1}, api.OK},
		{[]int{0, 3, 0, 1, 1, 3}, api.OK},
		{[]int{2}, api.ErrClosed},
		{[]int{4}, api.ErrClosed},
		{[]int{2, 2}, api.ErrClosed},
		{[]int{2, 4}, api.ErrClosed},
		{[]int{2, 0, 1}, api.ErrClosed},
		{[]int{0, 2, 1}, api.ErrClosed},
		{[]int{0, 1, 2}, api.ErrClosed},
		{[]int{0, 1, 2, 3, 4}, api.ErrClosed},
		{[]int{5}, api.ErrArg},
		{[]int{-1}, api.ErrArg},
		{[]int{math.MaxInt}, api.ErrArg},
		{[]int{math.MinInt}, api.ErrArg},
		{[]int{-1, 0, 1}, api.ErrArg},
		{[]int{0, -1, 1}, api.ErrArg},
		{[]int{0, 1, -1}, api.ErrArg},
		{[]int{5, 0, 1}, api.ErrArg},
		{[]int{0, 5, 1}, api.ErrArg},
		{[]int{0, 1, 5}, api.ErrArg},
		{[]int{math.MaxInt, 0}, api.ErrArg},
		{[]int{1, math.MinInt}, api.ErrArg},
		{[]int{2, 5}, api.ErrArg},
		{[]int{5, 2}, api.ErrArg},
		{[]int{2, -1}, api.ErrArg},
		{[]int{-1, 2}, api.ErrArg},
		{[]int{4, 0, 1, math.MinInt}, api.ErrArg},
		{[]int{math.MaxInt, 0, 1, 4}, api.ErrArg},
		{[]int{0, 2, 5, 1}, api.ErrArg},
		{[]int{0, 5, 2, 1}, api.ErrArg},
		{[]int{2, 4, 5, -1}, api.ErrArg},
	} {
		for _, c := range changers() {
			k, behind := at(t, states, some(5)...), states
			if one.e == api.OK {
				behind = put(states, c.letter, one.list...)
			}
			if e := c.do(k, one.list...); e != one.e {
				t.Errorf("%s(%v): %v, want %v", c.name, one.list, e, one.e)
			}
			is(t, c.name, k, 5, behind)
			settlesAs(t, c.name, k, at(t, behind, some(5)...), 5)
		}
	}
}

// TestStrangers: P21.2; a number of no task, far or near, first, in the middle or last, beside tasks, one of them ended or none: ErrArg, and nothing changes.
func TestStrangers(t *testing.T) {
	for _, tasks := range []int{1, 2, 3, 4, 63, 64} {
		for _, states := range []string{strings.Repeat("rs", 32)[:tasks], strings.Repeat("sre", 22)[:tasks]} {
			for _, wrong := range strangers(tasks) {
				for _, place := range []int{0, tasks / 2, tasks} {
					for _, c := range changers() {
						k := at(t, states, some(tasks)...)
						if e := c.do(k, slices.Insert(upTo(tasks), place, wrong)...); e != api.ErrArg {
							t.Errorf("%d tasks: %s with %d at %d: %v", tasks, c.name, wrong, place, e)
						}
						if e := c.do(k, wrong); e != api.ErrArg {
							t.Errorf("%d tasks: %s(%d): %v", tasks, c.name, wrong, e)
						}
						is(t, c.name, k, 5, states)
					}
				}
			}
		}
	}
}

// TestAll: P21.2; all tasks at once, each once and each twice, and in the other order.
func TestAll(t *testing.T) {
	for tasks := 1; tasks <= 64; tasks++ {
		for _, c := range changers() {
			behind := strings.Repeat(string(c.letter), tasks)
			back := upTo(tasks)
			slices.Reverse(back)
			for _, list := range [][]int{upTo(tasks), back, append(upTo(tasks), back...)} {
				k := at(t, strings.Repeat("rs", 32)[:tasks])
				if e := c.do(k, list...); e != api.OK {
					t.Fatalf("%s(%v): %v", c.name, list, e)
				}
				is(t, c.name, k, 0, behind)
			}
		}
	}
}

// TestLong: P21.2, P1; lists far longer than there are tasks, right ones (one task stands at the end alone) and such whose last number is wrong.
func TestLong(t *testing.T) {
	long := make([]int, 1000000)
	for i := range long {
		long[i] = i % 2
	}
	long[len(long)-1] = 2
	for _, c := range changers() {
		k := at(t, "rssr", 3, 1)
		if e := c.do(k, append(long, 4)...); e != api.ErrArg {
			t.Errorf("%s: %v", c.name, e)
		}
		is(t, c.name, k, 2, "rssr")
		if e := c.do(k, long...); e != api.OK {
			t.Errorf("%s: %v", c.name, e)
		}
		is(t, c.name, k, 2, put("rssr", c.letter, 0, 1, 2))
		ends(t, k, api.OK, 3)
		was := put("rsse", c.letter, 0, 1, 2)
		if e := c.do(k, append(long, 3)...); e != api.ErrClosed {
			t.Errorf("%s: %v", c.name, e)
		}
		is(t, c.name, k, 2, was)
	}
}

// TestEndedForEver: P21.2, P21.3; nothing that follows makes of one that has ended anything else, or gives it a turn.
func TestEndedForEver(t *testing.T) {
	for tasks := 1; tasks <= 4; tasks++ {
		for n := range tasks {
			k := at(t, put(strings.Repeat("r", tasks), 'e', n), some(tasks)...)
			all := slices.Repeat([]bool{true}, tasks)
			for round := range 20 {
				for _, c := range changers() {
					if e := c.do(k, n); e != api.ErrClosed {
						t.Errorf("%s(%d): %v", c.name, n, e)
					}
				}
				all[n] = round%2 == 0
				sets(t, k, api.OK, all...)
				if got := k.Ended(); !slices.Equal(got, []int{n}) {
					t.Errorf("Ended: %v, want %d", got, n)
				}
				if slices.Contains(k.Ready(), n) {
					t.Errorf("%d has ended and is ready", n)
				}
				if got, ok := k.Pick(round); ok != (tasks > 1) || ok && got == n {
					t.Errorf("%d has ended: Pick: %d, %t", n, got, ok)
				}
				if got, ok := k.Fair(); ok != (tasks > 1) || ok && got == n {
					t.Errorf("%d has ended: Fair: %d, %t", n, got, ok)
				}
			}
		}
	}
}

// everySet calls f with all ways to say yes or no of so many.
func everySet(many int, f func(are []bool)) {
	for bits := range 1 << many {
		are := make([]bool, many)
		for n := range are {
			are[n] = bits>>n&1 == 1
		}
		f(are)
	}
}

// TestSet: P21.3; everything that can be said of up to four tasks, from every state: those that have ended stay so, and who was picked when stays.
func TestSet(t *testing.T) {
	for tasks := 1; tasks <= 4; tasks++ {
		everyState(tasks, func(states string) {
			everySet(tasks, func(are []bool) {
				k, behind := at(t, states, some(tasks)...), []byte(states)
				for n := range behind {
					if behind[n] != 'e' {
						behind[n] = map[bool]byte{true: 'r', false: 's'}[are[n]]
					}
				}
				sets(t, k, api.OK, are...)
				is(t, "set", k, 5, string(behind))
				settlesAs(t, "set", k, at(t, states, some(tasks)...), tasks)
			})
		})
	}
}

// TestSetOfAnyLength: P21.3; none, one too few, one too many, and far more: ErrArg and nothing changes, whatever is said, and whoever has ended.
func TestSetOfAnyLength(t *testing.T) {
	for _, tasks := range []int{1, 2, 3, 4, 63, 64} {
		for _, states := range []string{strings.Repeat("rs", 32)[:tasks], strings.Repeat("sre", 22)[:tasks], strings.Repeat("e", tasks)} {
			k, twin := at(t, states, some(tasks)...), at(t, states, some(tasks)...)
			for _, many := range []int{0, 1, 2, 3, tasks - 1, tasks + 1, 2 * tasks, 64, 65, 256, 256 + tasks, 65536 + tasks} {
				if many == tasks {
					continue
				}
				for _, b := range []bool{true, false} {
					sets(t, k, api.ErrArg, slices.Repeat([]bool{b}, many)...)
					is(t, "refused", k, 5, states)
				}
			}
			settlesAs(t, "refused", k, twin, tasks)
		}
	}
}

// TestSetOf64: P21.3; all true, all false, and every other one, on the greatest kern with none, some and all ended.
func TestSetOf64(t *testing.T) {
	for _, ended := range [][]int{nil, {0}, {63}, {0, 17, 31, 32, 63}, upTo(64)} {
		k := made(t, 64)
		ends(t, k, api.OK, ended...)
		for _, said := range []string{strings.Repeat("r", 64), strings.Repeat("s", 64), strings.Repeat("rs", 32), strings.Repeat("sr", 32)} {
			are := make([]bool, 64)
			for n := range are {
				are[n] = said[n] == 'r'
			}
			sets(t, k, api.OK, are...)
			is(t, "set", k, 0, put(said, 'e', ended...))
		}
	}
}

// TestReadyAndEnded: P21.4, P21.6; in every state both rise and tell just those, in whatever order they were woken and ended.
func TestReadyAndEnded(t *testing.T) {
	for tasks := 1; tasks <= 6; tasks++ {
		everyState(tasks, func(states string) {
			at(t, states)
			k := made(t, tasks)
			for n := range tasks {
				back := tasks - 1 - n
				switch states[back] {
				case 'r':
					wakes(t, k, api.OK, back)
				case 'e':
					ends(t, k, api.OK, back)
				}
			}
			is(t, "backwards", k, 0, states)
		})
	}
}

// TestPick: P21.4; in every state each choice from below minus twice as many as are ready to above twice as many: the places of Ready in a round.
func TestPick(t *testing.T) {
	for tasks := 1; tasks <= 5; tasks++ {
		everyState(tasks, func(states string) {
			k, able := at(t, states), those(states, 'r')
			if len(able) == 0 {
				for choice := -3; choice <= 3; choice++ {
					picksNone(t, k, choice)
				}
				is(t, "none ready", k, 0, states)
				return
			}
			turns, place := 0, 0
			for choice := -3 * len(able); choice <= 3*len(able); choice++ {
				picksTask(t, k, choice, able[place])
				turns, place = turns+1, (place+1)%len(able)
			}
			is(t, "picked", k, turns, states)
		})
	}
}

// TestPickOf64: P21.4; each choice from 0 to twice as many as are ready, and as many below 0, with all, some and one of the 64 ready.
func TestPickOf64(t *testing.T) {
	for _, states := range []string{strings.Repeat("r", 64), strings.Repeat("rse", 22)[:64], strings.Repeat("s", 63) + "r", "r" + strings.Repeat("e", 63)} {
		k, able := at(t, states), those(states, 'r')
		for round := -2; round <= 2; round++ {
			for place, n := range able {
				picksTask(t, k, round*len(able)+place, n)
			}
		}
		is(t, "picked", k, 5*len(able), states)
	}
}

// TestPickAtTheEnds: P21.4; the greatest and the least numbers, and those about 2^8, 2^16 and 2^32, at each number of tasks that are ready, also where it is no power of 2.
func TestPickAtTheEnds(t *testing.T) {
	choices := []int{math.MinInt, math.MinInt + 1, math.MinInt + 2, -1<<32 - 1, -1 << 32, math.MinInt32, -65536, -257, -256, -255,
		255, 256, 257, 65535, 65536, math.MaxInt32, 1 << 32, 1<<32 + 1, math.MaxInt - 2, math.MaxInt - 1, math.MaxInt}
	for many := 1; many <= 64; many++ {
		k := at(t, strings.Repeat("r", many))
		for _, choice := range choices {
			picksTask(t, k, choice, rest(choice, many))
		}
	}
	k := at(t, "srssrr")
	picksTask(t, k, math.MaxInt, 4)
	picksTask(t, k, math.MinInt, 4)
	picksTask(t, k, math.MaxInt-1, 1)
	picksTask(t, k, math.MinInt+1, 5)
	is(t, "picked", k, 4, "srssrr")
}

// rest is what is left of a number where n is taken from it (or put to it) as often as it takes, without a division: by doublings.
func rest(of, n int) int {
	if of < 0 {
		// -1-of isn't negative, and -1 leaves n-1.
		return n - 1 - rest(-1-of, n)
	}
	for of >= n {
		step := n
		for step <= of-step {
			step += step
		}
		of -= step
	}
	return of
}

// TestPickStays: P21.4; who is picked stays ready and may be picked again at once; others are as they were.
func TestPickStays(t *testing.T) {
	k := at(t, "rsre")
	for turn := 1; turn <= 70000; turn++ {
		if n, ok := k.Pick(1); n != 2 || !ok || k.Turns() != turn {
			t.Fatalf("Pick: %d, %t, at %d turns", n, ok, k.Turns())
		}
	}
	is(t, "picked", k, 70000, "rsre")
	fairs(t, k, 0, 2, 0)
}

// TestFair: P21.5; behind every short list of turns, in every state: the one that is ready and was picked in the least turn, of those that never were the one with the least number.
func TestFair(t *testing.T) {
	for tasks, most := range []int{1: 4, 2: 5, 3: 5, 4: 3} {
		if tasks == 0 {
			continue
		}
		everyState(tasks, func(states string) {
			everyList(most, 0, tasks-1, func(picks []int) {
				k := at(t, states, picks...)
				if want := waitedLongest(those(states, 'r'), picks); want < 0 {
					fairsNone(t, k)
					is(t, "Fair", k, len(picks), states)
				} else {
					fairs(t, k, want)
					is(t, "Fair", k, len(picks)+1, states)
				}
			})
		})
	}
}

// waitedLongest is whose turn it is by P21.5 behind these turns; -1, if none is ready.
func waitedLongest(able, picks []int) int {
	for _, n := range able {
		if !slices.Contains(picks, n) {
			return n
		}
	}
	for i, n := range picks {
		if slices.Contains(able, n) && !slices.Contains(picks[i+1:], n) {
			return n
		}
	}
	return -1
}

// TestFairFromPick: P21.5; turns taken by Pick count for Fair as its own.
func TestFairFromPick(t *testing.T) {
	k := at(t, "rrr", 2, 1)
	fairs(t, k, 0, 2, 1, 0, 2, 1)
	picksTask(t, k, 0, 0)
	fairs(t, k, 2, 1, 0)
	picksTask(t, k, 2, 2)
	picksTask(t, k, 2, 2)
	fairs(t, k, 1, 0, 2, 1)
	is(t, "taken", k, 18, "rrr")
}

// TestFairNeverPicked: P21.5; those that never were go first, the least number first, though a greater one was woken ahead of it.
func TestFairNeverPicked(t *testing.T) {
	k := made(t, 5)
	wakes(t, k, api.OK, 3)
	fairs(t, k, 3, 3)
	wakes(t, k, api.OK, 4)
	wakes(t, k, api.OK, 1)
	fairs(t, k, 1, 4, 3, 1)
	wakes(t, k, api.OK, 0, 2)
	fairs(t, k, 0, 2, 4, 3, 1, 0, 2)
}

// TestFairBehindSleep: P21.5; who slept, or was woken again, or was set, keeps the turn in which it was picked last, and is passed over only while it sleeps.
func TestFairBehindSleep(t *testing.T) {
	k := at(t, "rrr")
	fairs(t, k, 0, 1, 2)
	sleeps(t, k, api.OK, 0)
	fairs(t, k, 1, 2)
	wakes(t, k, api.OK, 0)
	fairs(t, k, 0)
	wakes(t, k, api.OK, 0, 1, 2)
	fairs(t, k, 1)
	sleeps(t, k, api.OK, 0, 1, 2)
	fairsNone(t, k)
	wakes(t, k, api.OK, 1, 0)
	fairs(t, k, 0, 1, 0)
	sets(t, k, api.OK, false, false, false)
	sets(t, k, api.OK, true, true, true)
	fairs(t, k, 2, 1, 0)
	ends(t, k, api.OK, 2)
	fairs(t, k, 1, 0, 1)
}

// TestFairOf64: P21.5; all ready: in a round; behind any round by Pick in that round's order.
func TestFairOf64(t *testing.T) {
	k := at(t, strings.Repeat("r", 64))
	fairs(t, k, upTo(64)...)
	fairs(t, k, upTo(64)...)
	order := make([]int, 64)
	for i := range order {
		order[i] = i * 37 % 64
		picksTask(t, k, order[i], order[i])
	}
	fairs(t, k, order...)
	sleeps(t, k, api.OK, order[:60]...)
	fairs(t, k, order[60:]...)
	wakes(t, k, api.OK, order[30:50]...)
	fairs(t, k, append(slices.Clone(order[30:50]), order[60:]...)...)
	wakes(t, k, api.OK, upTo(64)...)
	fairs(t, k, order[:30]...)
	fairs(t, k, order[50:60]...)
	fairs(t, k, order[30]) // the first one that was picked while the others slept
}

// TestFairOfMany: P21.5; beyond what two bytes hold of turns.
func TestFairOfMany(t *testing.T) {
	k := at(t, "rrr")
	for turn := range 200000 {
		if n, ok := k.Fair(); n != turn%3 || !ok || k.Turns() != turn+1 {
			t.Fatalf("Fair: %d, %t, at %d turns", n, ok, k.Turns())
		}
	}
	is(t, "taken", k, 200000, "rrr")
}

// TestNoneReady: P21.4, P21.5; where all sleep or have ended no turn is taken, and none is remembered.
func TestNoneReady(t *testing.T) {
	for _, tasks := range []int{1, 2, 3, 64} {
		for _, states := range []string{strings.Repeat("s", tasks), strings.Repeat("e", tasks), strings.Repeat("se", 32)[:tasks]} {
			for _, picks := range [][]int{nil, some(tasks)} {
				k := at(t, states, picks...)
				for _, choice := range []int{0, 1, -1, tasks, math.MaxInt, math.MinInt} {
					picksNone(t, k, choice)
					fairsNone(t, k)
				}
				is(t, "none ready", k, len(picks), states)
				settlesAs(t, "none ready", k, at(t, states, picks...), tasks)
			}
		}
	}
}

// TestTurnsAreTaken: P21.6; only Pick and Fair that give a turn count: nothing else moves Turns.
func TestTurnsAreTaken(t *testing.T) {
	k := made(t, 3)
	turns := func(want int) {
		t.Helper()
		if got := k.Turns(); got != want {
			t.Errorf("Turns: %d, want %d", got, want)
		}
	}
	turns(0)
	picksNone(t, k, 1)
	fairsNone(t, k)
	turns(0)
	wakes(t, k, api.OK, 0, 1)
	turns(0)
	picksTask(t, k, 1, 1)
	turns(1)
	sleeps(t, k, api.OK, 1)
	wakes(t, k, api.OK, 1)
	wakes(t, k, api.ErrArg, 3)
	turns(1)
	fairs(t, k, 0)
	turns(2)
	sets(t, k, api.OK, true, true, false)
	sets(t, k, api.ErrArg)
	turns(2)
	ends(t, k, api.OK, 0)
	ends(t, k, api.ErrClosed, 0)
	turns(2)
	k.Ready()
	k.Ended()
	turns(2)
	ends(t, k, api.OK, 1, 2)
	turns(2)
	picksNone(t, k, 0)
	fairsNone(t, k)
	turns(2)
}

// TestFairness: P21.7; of up to three tasks behind every short list of turns, of four behind every order of some: a task stays ready, whatever of the others is set ahead of each Fair it is picked within as many as there are tasks.
func TestFairness(t *testing.T) {
	for tasks := 1; tasks <= 4; tasks++ {
		everyList(4, 0, tasks-1, func(picks []int) {
			if tasks == 4 && repeats(picks) {
				return
			}
			for n := range tasks {
				staysReady(t, tasks, n, picks)
			}
		})
	}
}

// repeats tells whether a number stands in a list twice.
func repeats(list []int) bool {
	for i, n := range list {
		if slices.Contains(list[:i], n) {
			return true
		}
	}
	return false
}

// staysReady fails if a task that stays ready behind these turns isn't picked in as many Fairs as there are tasks, for all ways to set the others ahead of each.
func staysReady(t *testing.T, tasks, n int, picks []int) {
	t.Helper()
	for ways := range 1 << (tasks * (tasks - 1)) {
		k := made(t, tasks)
		for _, p := range picks {
			k.Wake(upTo(tasks)...)
			k.Pick(p)
		}
		left, picked := ways, false
		for range tasks {
			are := make([]bool, tasks)
			for other := range are {
				are[other] = other == n || left&1 == 1
				if other != n {
					left >>= 1
				}
			}
			k.Set(are...)
			got, ok := k.Fair()
			picked = picked || ok && got == n
		}
		if !picked {
			t.Fatalf("%d tasks, behind %v: %d stays ready and isn't picked (way %b)", tasks, picks, n, ways)
		}
	}
}

// TestFairnessIsTight: P21.7; one that was picked just now may be passed over by each of the others once, and no more often.
func TestFairnessIsTight(t *testing.T) {
	for tasks := 1; tasks <= 64; tasks++ {
		k := at(t, strings.Repeat("r", tasks))
		picksTask(t, k, 0, 0)
		for range 3 {
			for n := 1; n < tasks; n++ {
				sleeps(t, k, api.OK, upTo(tasks)[1:]...)
				wakes(t, k, api.OK, n)
				fairs(t, k, n)
			}
			fairs(t, k, 0)
		}
	}
}

// TestHandedInStays: rule 5; what is handed to Wake, Sleep and End stays as it was, its spare room included, whatever they answer, and isn't kept.
func TestHandedInStays(t *testing.T) {
	for _, list := range [][]int{{}, {2}, {2, 0}, {1, 1, 0}, {3, 2, 1, 0}, {4}, {0, 4, 1}, {9}, {0, -1, 1}, {4, 9}, {9, 4, 0}} {
		whole := append(append([]int{77, 78}, list...), 79, 80, 81)
		was, end := slices.Clone(whole), len(list)+2
		for _, room := range []int{end, end + 2, end + 3} {
			for _, c := range changers() {
				k, twin := at(t, "rsrse", some(5)...), at(t, "rsrse", some(5)...)
				e := c.do(k, whole[2:end:room]...)
				if !slices.Equal(whole, was) {
					t.Fatalf("%s(%v), %v: left %v", c.name, list, e, whole)
				}
				for i := range whole {
					whole[i] = 1
				}
				c.do(twin, list...)
				if !slices.Equal(k.Ready(), twin.Ready()) || !slices.Equal(k.Ended(), twin.Ended()) {
					t.Fatalf("%s(%v): the list was kept", c.name, list)
				}
				settlesAs(t, c.name, k, twin, 5)
				copy(whole, was)
			}
		}
	}
}

// TestSetKeepsNothing: rule 5; what is handed to Set stays as it was, its spare room included, whatever it answers, and isn't kept.
func TestSetKeepsNothing(t *testing.T) {
	whole := []bool{true, false, true, false, true, false, true, false}
	was := slices.Clone(whole)
	for first := 0; first <= 4; first++ {
		for last := first; last <= 8; last++ {
			for _, room := range []int{last, 8} {
				k := at(t, "rsre", some(4)...)
				e := k.Set(whole[first:last:room]...)
				if !slices.Equal(whole, was) {
					t.Fatalf("Set(%v), %v: left %v", was[first:last], e, whole)
				}
				for i := range whole {
					whole[i] = !whole[i]
				}
				behind := "rsre"
				if last-first == 4 {
					behind = "rsrsrs"[first%2:][:3] + "e"
				}
				is(t, "the list spoilt", k, 5, behind)
				copy(whole, was)
			}
		}
	}
}

// spoil writes over a list up to the end of its room, and appends to it.
func spoil(list []int) {
	whole := list[:cap(list)]
	for i := range whole {
		whole[i] = 77
	}
	_ = append(list, 78, 79)
}

// TestAnswersAreNew: P21.6, rule 5; what Ready and Ended answer may be written over and appended to, and nothing changes: not the kern, not another answer.
func TestAnswersAreNew(t *testing.T) {
	for tasks := 1; tasks <= 5; tasks++ {
		everyState(tasks, func(states string) {
			k, twin := at(t, states, some(tasks)...), at(t, states, some(tasks)...)
			first, second, third := k.Ready(), k.Ended(), k.Ready()
			spoil(first)
			if !slices.Equal(second, those(states, 'e')) || !slices.Equal(third, those(states, 'r')) {
				t.Fatalf("%s: two answers share memory", states)
			}
			spoil(second)
			if !slices.Equal(third, those(states, 'r')) {
				t.Fatalf("%s: two answers share memory", states)
			}
			spoil(third)
			is(t, "spoilt", k, 5, states)
			kept := k.Ready()
			settlesAs(t, "spoilt", k, twin, tasks)
			if !slices.Equal(kept, those(states, 'r')) {
				t.Fatalf("%s: an answer changed behind it: %v", states, kept)
			}
		})
	}
}

// TestAnswersStay: rule 5; an answer stays as it was, whatever is called behind it.
func TestAnswersStay(t *testing.T) {
	k := at(t, "rrsse", 1, 0)
	ready, ended := k.Ready(), k.Ended()
	fairs(t, k, 1)
	sleeps(t, k, api.OK, 0, 1)
	wakes(t, k, api.OK, 2, 3)
	ends(t, k, api.OK, 0)
	k.Ready()
	k.Ended()
	sets(t, k, api.OK, true, true, true, true, true)
	if !slices.Equal(ready, []int{0, 1}) || !slices.Equal(ended, []int{4}) {
		t.Errorf("the answers became %v and %v", ready, ended)
	}
}

// TestApart: rule 7; what is done to one kern isn't seen in another.
func TestApart(t *testing.T) {
	a, b := made(t, 2), made(t, 3)
	wakes(t, a, api.OK, 0, 1)
	is(t, "the other", b, 0, "sss")
	fairs(t, a, 0, 1, 0)
	is(t, "the other", b, 0, "sss")
	wakes(t, b, api.OK, 0, 1)
	fairs(t, b, 0)
	picksTask(t, b, 0, 0)
	ends(t, b, api.OK, 2)
	is(t, "the one", a, 3, "rr")
	fairs(t, a, 1, 0)
	fairs(t, b, 1, 0, 1)
	ends(t, a, api.OK, 0)
	is(t, "the other", b, 5, "rre")
	sets(t, b, api.OK, false, true, true)
	is(t, "the one", a, 5, "er")
}
