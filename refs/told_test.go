package refs_test

import (
	"math"
	"math/rand"
	"slices"
	"testing"

	"tappet/api"
	"tappet/refs"
)

// list is what the chapter tells of refs, as a plain list of who holds what, in the order in which they came.
type list struct {
	maps  int
	holds []hold
}

// at is where a program stands in the list, -1 if it doesn't hold.
func (l *list) at(prog int) int {
	return slices.IndexFunc(l.holds, func(h hold) bool { return h.prog == prog })
}

func (l *list) hold(prog int, maps []int) api.Errno {
	for _, m := range maps {
		if m < 0 || m >= l.maps {
			return 2
		}
	}
	if repeated(maps) {
		return 2
	}
	if l.at(prog) >= 0 {
		return 42
	}
	l.holds = append(l.holds, hold{prog, slices.Clone(maps)})
	return 0
}

func (l *list) drop(progs []int) api.Errno {
	if repeated(progs) {
		return 2
	}
	for _, p := range progs {
		if l.at(p) < 0 {
			return 41
		}
	}
	for _, p := range progs {
		l.holds = slices.Delete(l.holds, l.at(p), l.at(p)+1)
	}
	return 0
}

// holders are those of the list that hold a map, each put to where the numbers rise.
func (l *list) holders(m int) []int {
	var out []int
	for _, h := range l.holds {
		if slices.Contains(h.maps, m) {
			at, _ := slices.BinarySearch(out, h.prog)
			out = slices.Insert(out, at, h.prog)
		}
	}
	return out
}

func (l *list) count(m int) (int, api.Errno) {
	if m < 0 || m >= l.maps {
		return 0, 2
	}
	return len(l.holders(m)), 0
}

func (l *list) held(prog int) ([]int, bool) {
	if at := l.at(prog); at >= 0 {
		return slices.Clone(l.holds[at].maps), true
	}
	return nil, false
}

// step is a call: Hold of a program, or (drop) Drop, with a list of maps, or of programs.
type step struct {
	drop bool
	prog int
	list []int
}

// answer is what a step was answered, and what can be read of its refs behind it.
type answer struct {
	e       api.Errno
	counts  []int
	errors  []api.Errno
	holders [][]int
	held    [][]int
	holds   []bool
}

// same tells whether two answers are equal, where nil and empty are one.
func same(a, b answer) bool {
	return a.e == b.e && slices.Equal(a.counts, b.counts) && slices.Equal(a.errors, b.errors) && slices.Equal(a.holds, b.holds) &&
		slices.EqualFunc(a.holders, b.holders, slices.Equal[[]int]) && slices.EqualFunc(a.held, b.held, slices.Equal[[]int])
}

// askedMaps are the maps, and numbers of none, of which a step's answer tells.
func askedMaps() []int {
	return []int{math.MinInt, -1, 0, 1, 2, 3, 4, 5, 1 << 32, math.MaxInt}
}

// few are the programs of random scripts: few, so that they come again.
func few() []int {
	return []int{4, -1, 0, math.MaxInt, 260, math.MinInt, 1<<32 + 4, -4}
}

// read adds to an answer all that can be asked.
func (a *answer) read(count func(int) (int, api.Errno), holders func(int) []int, held func(int) ([]int, bool)) {
	for _, m := range askedMaps() {
		n, e := count(m)
		a.counts, a.errors = append(a.counts, n), append(a.errors, e)
		a.holders = append(a.holders, holders(m))
	}
	for _, p := range append(few(), 1, -5) {
		maps, ok := held(p)
		a.held, a.holds = append(a.held, maps), append(a.holds, ok)
	}
}

// play does a step on refs.
func play(r *refs.Refs, s step) answer {
	var a answer
	if s.drop {
		a.e = r.Drop(s.list...)
	} else {
		a.e = r.Hold(s.prog, s.list...)
	}
	a.read(r.Count, r.Holders, r.Held)
	return a
}

// tell is what play must answer.
func tell(l *list, s step) answer {
	var a answer
	if s.drop {
		a.e = l.drop(s.list)
	} else {
		a.e = l.hold(s.prog, s.list)
	}
	a.read(l.count, l.holders, l.held)
	return a
}

// agree plays a script on refs, held call by call against a list; what each call was handed stays as it was, and is written over behind it.
func agree(t *testing.T, maps int, steps []step) {
	t.Helper()
	r, l := made(t, maps), &list{maps: maps}
	for at, s := range steps {
		handed := step{s.drop, s.prog, slices.Clone(s.list)}
		got, w := play(r, handed), tell(l, s)
		if !same(got, w) {
			t.Fatalf("%d maps, step %d, %v: %v, want %v", maps, at, s, got, w)
		}
		if !slices.Equal(handed.list, s.list) {
			t.Fatalf("%d maps, step %d, %v: the list has become %v", maps, at, s, handed.list)
		}
		spoil(handed.list)
	}
}

// anyMaps are some of the maps in any order mostly, or a list with repeats and numbers of no map.
func anyMaps(r *rand.Rand, maps int) []int {
	if r.Intn(6) > 0 {
		return r.Perm(maps)[:r.Intn(maps+1)]
	}
	var out []int
	wrong := noMaps(maps)
	for range r.Intn(6) {
		if maps == 0 || r.Intn(4) == 0 {
			out = append(out, wrong[r.Intn(len(wrong))])
		} else {
			out = append(out, r.Intn(maps))
		}
	}
	return out
}

// anyPrograms are one mostly, or several of which some may stand there twice.
func anyPrograms(r *rand.Rand) []int {
	all := few()
	switch r.Intn(5) {
	case 0:
		var out []int
		for range r.Intn(5) {
			out = append(out, all[r.Intn(len(all))])
		}
		return out
	case 1:
		var out []int
		for _, i := range r.Perm(len(all))[:r.Intn(4)] {
			out = append(out, all[i])
		}
		return out
	}
	return []int{all[r.Intn(len(all))]}
}

// script is a random list of steps; Drops come as often as tilt says, of a hundred.
func script(r *rand.Rand, many, maps, tilt int) []step {
	out := make([]step, many)
	for i := range out {
		if r.Intn(100) < tilt {
			out[i] = step{drop: true, list: anyPrograms(r)}
		} else {
			out[i] = step{prog: few()[r.Intn(len(few()))], list: anyMaps(r, maps)}
		}
	}
	return out
}

// TestTold: P18.1 to P18.5; random scripts on refs of each number of maps, with few Drops and with many.
func TestTold(t *testing.T) {
	r := rand.New(rand.NewSource(18))
	for range 60 {
		for maps := 0; maps <= 4; maps++ {
			for _, tilt := range []int{15, 40, 55, 75} {
				agree(t, maps, script(r, 120, maps, tilt))
			}
		}
	}
}

// TestEveryShortScript: P18.1 to P18.5; all scripts of so many calls: a Hold of every right list by each of two programs, a Drop of each and of both.
func TestEveryShortScript(t *testing.T) {
	deep := []int{6, 5, 4, 3, 2}
	for maps := 0; maps <= 4; maps++ {
		calls := []step{{drop: true, list: []int{4}}, {drop: true, list: []int{-4}}, {drop: true, list: []int{4, -4}}}
		everyChoice(maps, func(ns []int) {
			calls = append(calls, step{prog: 4, list: slices.Clone(ns)}, step{prog: -4, list: slices.Clone(ns)})
		})
		var steps []step
		var deeper func(left int)
		deeper = func(left int) {
			if left == 0 {
				agree(t, maps, steps)
				return
			}
			for _, s := range calls {
				steps = append(steps, s)
				deeper(left - 1)
				steps = steps[:len(steps)-1]
			}
		}
		deeper(deep[maps])
	}
}

// TestTurns: rule 7; two refs in turns, in any turns, answer as each alone.
func TestTurns(t *testing.T) {
	r := rand.New(rand.NewSource(1807))
	for range 200 {
		maps := [2]int{r.Intn(5), r.Intn(5)}
		if r.Intn(2) == 0 {
			maps[1] = maps[0]
		}
		var scripts [2][]step
		var alone, turns [2][]answer
		for i := range 2 {
			scripts[i] = script(r, 80, maps[i], 40)
			one := made(t, maps[i])
			for _, s := range scripts[i] {
				alone[i] = append(alone[i], play(one, s))
			}
		}
		rs := [2]*refs.Refs{made(t, maps[0]), made(t, maps[1])}
		for len(turns[0])+len(turns[1]) < 160 {
			i := r.Intn(2)
			if at := len(turns[i]); at < 80 {
				turns[i] = append(turns[i], play(rs[i], scripts[i][at]))
			}
		}
		for i := range 2 {
			if !slices.EqualFunc(alone[i], turns[i], same) {
				t.Fatalf("%v maps, refs %d in turns: %v, want %v", maps, i, turns[i], alone[i])
			}
		}
	}
}

// TestAnswersHangOnCallsAlone: rules 3, 5 and 7; one script on two refs, on one of them with calls between that are refused or only ask, and with its answers spoilt: the same answers.
func TestAnswersHangOnCallsAlone(t *testing.T) {
	r := rand.New(rand.NewSource(1803))
	for range 40 {
		for maps := 0; maps <= 4; maps++ {
			a, b := made(t, maps), made(t, maps)
			for _, s := range script(r, 100, maps, 40) {
				for range r.Intn(4) {
					idle(t, r, b, maps)
				}
				got, w := play(b, s), play(a, s)
				if !same(got, w) {
					t.Fatalf("%d maps, %v: %v, want %v", maps, s, got, w)
				}
				for _, ns := range slices.Concat(got.holders, got.held) {
					spoil(ns)
				}
			}
		}
	}
}

// idle makes a call that changes nothing.
func idle(t *testing.T, r *rand.Rand, rs *refs.Refs, maps int) {
	t.Helper()
	p := few()[r.Intn(len(few()))]
	of, ok := rs.Held(p)
	switch r.Intn(6) {
	case 0:
		drops(t, rs, api.OK)
	case 1:
		drops(t, rs, api.ErrArg, p, p)
	case 2:
		drops(t, rs, api.ErrNone, p, 99)
	case 3:
		holds(t, rs, api.ErrArg, p, maps)
	case 4:
		spoil(rs.Holders(r.Intn(maps + 1)))
		spoil(of)
	case 5:
		if ok {
			holds(t, rs, api.ErrBusy, p, r.Perm(maps)...)
		} else {
			drops(t, rs, api.ErrNone, p)
		}
	}
}

// FuzzTold: bytes read as a number of maps and steps, held against a list.
func FuzzTold(f *testing.F) {
	f.Add([]byte{4, 2, 0, 3, 1, 0, 0, 1, 0, 4, 2, 1, 2, 2, 128, 0, 130, 0, 1})
	f.Add([]byte{5, 4, 0, 1, 2, 3, 4, 133, 0, 0, 132, 9, 3, 0})
	f.Add([]byte{0})
	f.Fuzz(func(t *testing.T, data []byte) {
		if len(data) == 0 {
			return
		}
		maps := int(data[0]%8) - 1
		if maps < 0 || maps > 4 {
			if r, e := refs.New(maps); r != nil || e != api.ErrArg {
				t.Fatalf("New(%d): %v, %v", maps, r, e)
			}
			return
		}
		agree(t, maps, readSteps(data[1:min(len(data), 400)]))
	})
}

// readSteps reads bytes below 128 as a Hold, the others as a Drop; the upper bits say of which program, the lower ones how many bytes follow as its list.
func readSteps(data []byte) []step {
	var out []step
	for i := 0; i < len(data); i++ {
		c := data[i]
		s := step{drop: c >= 128, prog: few()[c/8%8]}
		for range c % 8 {
			if i+1 == len(data) {
				break
			}
			i++
			if s.drop {
				s.list = append(s.list, few()[data[i]%8])
			} else {
				s.list = append(s.list, int(data[i])%8-1)
			}
		}
		out = append(out, s)
	}
	return out
}
