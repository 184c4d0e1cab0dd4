package hooks_test

import (
	"math"
	"math/rand"
	"slices"
	"testing"

	"tappet/api"
	"tappet/hooks"
)

// deed is what became of a hook: a program was published, or (version 0) it was emptied. A version that Fresh gave stands at hook -1.
type deed struct {
	hook, version, prog int
}

// list is what the chapter tells of a table: how many hooks, and all that was done, in order.
type list struct {
	hooks int
	deeds []deed
}

// last is how many versions were given.
func (l *list) last() int {
	n := 0
	for _, d := range l.deeds {
		if d.version > 0 {
			n++
		}
	}
	return n
}

// give is the next version, of a program at a hook.
func (l *list) give(hook, prog int) int {
	l.deeds = append(l.deeds, deed{hook, l.last() + 1, prog})
	return l.last()
}

// current is what the last deed at a hook left there.
func (l *list) current(hook int) (int, int, bool) {
	for i := len(l.deeds) - 1; i >= 0 && hook >= 0; i-- {
		if d := l.deeds[i]; d.hook == hook {
			return d.version, d.prog, d.version > 0
		}
	}
	return 0, 0, false
}

func (l *list) attach(hook, prog int) (int, api.Errno) {
	if hook < 0 || hook >= l.hooks {
		return 0, 2
	}
	if _, _, there := l.current(hook); there {
		return 0, 42
	}
	return l.give(hook, prog), 0
}

func (l *list) swap(hook, prog int) (int, api.Errno) {
	if hook < 0 || hook >= l.hooks {
		return 0, 2
	}
	if _, _, there := l.current(hook); !there {
		return 0, 41
	}
	return l.give(hook, prog), 0
}

func (l *list) detach(of []int) api.Errno {
	for _, hook := range of {
		if hook < 0 || hook >= l.hooks {
			return 2
		}
	}
	if repeats(of) {
		return 2
	}
	for _, hook := range of {
		if _, _, there := l.current(hook); !there {
			return 41
		}
	}
	for _, hook := range of {
		l.deeds = append(l.deeds, deed{hook: hook})
	}
	return 0
}

func (l *list) where(progs ...int) []int {
	var out []int
	for hook := range l.hooks {
		if _, prog, there := l.current(hook); there && slices.Contains(progs, prog) {
			out = append(out, hook)
		}
	}
	return out
}

// what is which call a step makes.
type what int

const (
	attach what = iota
	swap
	detach
	freshOne
)

// step is a call; Attach and Swap take the first of the hooks.
type step struct {
	what  what
	hooks []int
	prog  int
}

// answer is what a step was answered, and what can be read of its table behind it.
type answer struct {
	n       int
	e       api.Errno
	last    int
	current []post
	there   []bool
	where   [][]int
}

// same tells whether two answers are equal, where nil and empty are one.
func same(a, b answer) bool {
	return a.n == b.n && a.e == b.e && a.last == b.last && slices.Equal(a.current, b.current) && slices.Equal(a.there, b.there) &&
		slices.EqualFunc(a.where, b.where, slices.Equal[[]int])
}

// few are the programs of random scripts: few, so that they come again.
func few() []int {
	return []int{0, 4, -1, math.MaxInt, 260, math.MinInt, 1<<32 + 4, -4}
}

// read adds to an answer all that can be asked.
func (a *answer) read(last int, current func(int) (int, int, bool), where func(...int) []int) {
	a.last = last
	for _, hook := range []int{math.MinInt, -1, 0, 1, 2, 3, 4, 5, 1 << 32, math.MaxInt} {
		version, prog, there := current(hook)
		a.current, a.there = append(a.current, post{version, prog}), append(a.there, there)
	}
	for _, prog := range append(few(), 1) {
		a.where = append(a.where, where(prog))
	}
	a.where = append(a.where, where(), where(few()...), where(few()[:2]...), where(-1, 9, -1, 4))
}

// play does a step on a table.
func play(h *hooks.Table, s step) answer {
	var a answer
	switch s.what {
	case attach:
		a.n, a.e = h.Attach(s.hooks[0], s.prog)
	case swap:
		a.n, a.e = h.Swap(s.hooks[0], s.prog)
	case detach:
		a.e = h.Detach(s.hooks...)
	case freshOne:
		a.n = h.Fresh()
	}
	a.read(h.Last(), h.Current, h.Where)
	return a
}

// tell is what play must answer.
func tell(l *list, s step) answer {
	var a answer
	switch s.what {
	case attach:
		a.n, a.e = l.attach(s.hooks[0], s.prog)
	case swap:
		a.n, a.e = l.swap(s.hooks[0], s.prog)
	case detach:
		a.e = l.detach(s.hooks)
	case freshOne:
		a.n = l.give(-1, 0)
	}
	a.read(l.last(), l.current, l.where)
	return a
}

// agree plays a script on a table, held call by call against a list; what each call was handed stays as it was, and is written over behind it.
func agree(t *testing.T, many int, steps []step) {
	t.Helper()
	h, l := made(t, many), &list{hooks: many}
	for at, s := range steps {
		handed := step{s.what, slices.Clone(s.hooks), s.prog}
		got, w := play(h, handed), tell(l, s)
		if !same(got, w) {
			t.Fatalf("%d hooks, step %d, %v: %v, want %v", many, at, s, got, w)
		}
		if !slices.Equal(handed.hooks, s.hooks) {
			t.Fatalf("%d hooks, step %d, %v: the list has become %v", many, at, s, handed.hooks)
		}
		spoil(handed.hooks)
	}
}

// anyHook is a hook mostly, or a number of none.
func anyHook(r *rand.Rand, many int) int {
	if r.Intn(15) == 0 {
		wrong := noHooks(many)
		return wrong[r.Intn(len(wrong))]
	}
	return r.Intn(many)
}

// anyStep is an Attach, a Swap, a Fresh, or a Detach of none to six.
func anyStep(r *rand.Rand, many int) step {
	prog := few()[r.Intn(len(few()))]
	switch r.Intn(11) {
	case 0, 1, 2, 3:
		return step{attach, []int{anyHook(r, many)}, prog}
	case 4, 5, 6:
		return step{swap, []int{anyHook(r, many)}, prog}
	case 7:
		return step{what: freshOne}
	case 8:
		s := step{what: detach}
		for range r.Intn(7) {
			s.hooks = append(s.hooks, anyHook(r, many))
		}
		return s
	case 9:
		return step{what: detach, hooks: r.Perm(many)[:r.Intn(many+1)]}
	}
	return step{what: detach, hooks: []int{anyHook(r, many)}}
}

// script is a random list of steps.
func script(r *rand.Rand, steps, many int) []step {
	out := make([]step, steps)
	for i := range out {
		out[i] = anyStep(r, many)
	}
	return out
}

// TestTold: P19.1 to P19.5; random scripts on tables of each number of hooks.
func TestTold(t *testing.T) {
	r := rand.New(rand.NewSource(19))
	for range 200 {
		for many := 1; many <= 4; many++ {
			agree(t, many, script(r, 120, many))
		}
	}
}

// TestEveryShortScript: P19.1 to P19.5; all scripts of so many calls: an Attach and a Swap at each hook of each of two programs, a Detach of each hook and of all, a Fresh.
func TestEveryShortScript(t *testing.T) {
	deep := []int{1: 6, 2: 4, 3: 3, 4: 3}
	for many := 1; many <= 4; many++ {
		calls := []step{{what: freshOne}, {what: detach, hooks: []int{3, 2, 1, 0}[4-many:]}}
		for hook := range many {
			for _, prog := range []int{0, 4} {
				calls = append(calls, step{attach, []int{hook}, prog}, step{swap, []int{hook}, prog})
			}
			if many > 1 {
				calls = append(calls, step{what: detach, hooks: []int{hook}})
			}
		}
		var steps []step
		var deeper func(left int)
		deeper = func(left int) {
			if left == 0 {
				agree(t, many, steps)
				return
			}
			for _, s := range calls {
				steps = append(steps, s)
				deeper(left - 1)
				steps = steps[:len(steps)-1]
			}
		}
		deeper(deep[many])
	}
}

// TestTurns: rule 7; two tables in turns, in any turns, answer as each alone.
func TestTurns(t *testing.T) {
	r := rand.New(rand.NewSource(1907))
	for range 300 {
		many := [2]int{1 + r.Intn(4), 1 + r.Intn(4)}
		if r.Intn(2) == 0 {
			many[1] = many[0]
		}
		var scripts [2][]step
		var alone, turns [2][]answer
		for i := range 2 {
			scripts[i] = script(r, 80, many[i])
			one := made(t, many[i])
			for _, s := range scripts[i] {
				alone[i] = append(alone[i], play(one, s))
			}
		}
		hs := [2]*hooks.Table{made(t, many[0]), made(t, many[1])}
		for len(turns[0])+len(turns[1]) < 160 {
			i := r.Intn(2)
			if at := len(turns[i]); at < 80 {
				turns[i] = append(turns[i], play(hs[i], scripts[i][at]))
			}
		}
		for i := range 2 {
			if !slices.EqualFunc(alone[i], turns[i], same) {
				t.Fatalf("%v hooks, table %d in turns: %v, want %v", many, i, turns[i], alone[i])
			}
		}
	}
}

// TestAnswersHangOnCallsAlone: rules 3, 5 and 7; one script on two tables, on one of them with calls between that are refused or only ask, and with its answers spoilt: the same answers.
func TestAnswersHangOnCallsAlone(t *testing.T) {
	r := rand.New(rand.NewSource(1903))
	for range 60 {
		for many := 1; many <= 4; many++ {
			a, b := made(t, many), made(t, many)
			for _, s := range script(r, 100, many) {
				for range r.Intn(4) {
					idle(t, r, b, many)
				}
				got, w := play(b, s), play(a, s)
				if !same(got, w) {
					t.Fatalf("%d hooks, %v: %v, want %v", many, s, got, w)
				}
				for _, of := range got.where {
					spoil(of)
				}
			}
		}
	}
}

// idle makes a call that changes nothing.
func idle(t *testing.T, r *rand.Rand, h *hooks.Table, many int) {
	t.Helper()
	hook, prog := r.Intn(many), few()[r.Intn(len(few()))]
	switch _, _, there := h.Current(hook); r.Intn(7) {
	case 0:
		detaches(t, h, api.OK)
	case 1:
		detaches(t, h, api.ErrArg, hook, hook)
	case 2:
		detaches(t, h, api.ErrArg, hook, many)
	case 3:
		attaches(t, h, many, prog, 0, api.ErrArg)
	case 4:
		swaps(t, h, -1, prog, 0, api.ErrArg)
	case 5:
		spoil(h.Where(few()...))
	case 6:
		if there {
			attaches(t, h, hook, prog, 0, api.ErrBusy)
		} else {
			swaps(t, h, hook, prog, 0, api.ErrNone)
			detaches(t, h, api.ErrNone, hook)
		}
	}
}

// FuzzTold: bytes read as a number of hooks and steps, held against a list.
func FuzzTold(f *testing.F) {
	f.Add([]byte{4, 10, 11, 65, 4, 74, 9, 130, 1, 1, 130, 1, 3, 130, 1, 2, 200, 9})
	f.Add([]byte{5, 1, 2, 3, 4, 132, 4, 3, 2, 1, 192, 1, 66, 3, 5, 6, 133, 0, 6})
	f.Add([]byte{0})
	f.Fuzz(func(t *testing.T, data []byte) {
		if len(data) == 0 {
			return
		}
		many := int(data[0]%8) - 1
		if many < 1 || many > 4 {
			if h, e := hooks.New(many); h != nil || e != api.ErrArg {
				t.Fatalf("New(%d): %v, %v", many, h, e)
			}
			return
		}
		agree(t, many, readSteps(data[1:min(len(data), 300)]))
	})
}

// readSteps reads bytes below 64 as an Attach, those below 128 as a Swap, those from 192 on as a Fresh, and the others as a Detach of so many bytes that follow.
func readSteps(data []byte) []step {
	var out []step
	for i := 0; i < len(data); i++ {
		c := data[i]
		s := step{[]what{attach, swap, detach, freshOne}[c/64], []int{int(c)%8 - 1}, few()[c/8%8]}
		if s.what == detach {
			s = step{what: detach}
			for range c % 8 {
				if i+1 < len(data) {
					i++
					s.hooks = append(s.hooks, int(data[i])%8-1)
				}
			}
		}
		out = append(out, s)
	}
	return out
}
