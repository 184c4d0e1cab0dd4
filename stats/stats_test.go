package stats_test

import (
	"math"
	"slices"
	"testing"

	"tappet/api"
	"tappet/stats"
)

const most uint64 = math.MaxUint64

// four are the tallies of the hooks 0 to 3.
type four [4]api.Tally

// edges are the numbers at which a sum may go wrong.
func edges() []uint64 {
	return []uint64{0, 1, 2, math.MaxUint32, 1 << 32, 1<<63 - 1, 1 << 63, 1<<63 + 1, most - 1, most}
}

// noHooks are numbers of no hook: those beside them, far ones, and such that are a hook's modulo 2^8, 2^16 or 2^32, or but for their sign.
func noHooks() []int {
	out := []int{math.MinInt, math.MinInt + 1, math.MinInt32, -1 << 32, -1<<32 + 1, -65536, -256, -255, -4, -3, -2, -1,
		256, 257, 65536, 65537, math.MaxInt32, 1 << 32, 1<<32 + 1, math.MaxInt - 1, math.MaxInt}
	for hook := 4; hook <= 20; hook++ {
		out = append(out, hook)
	}
	return out
}

// rows are four tallies as numbers: of each Runs, Missed, Steps, Calls and Sum.
type rows [4][5]uint64

// tallies are what the rows tell.
func (r rows) tallies() four {
	return four(listed(r[:]))
}

// listed are tallies as rows tell them.
func listed(rs [][5]uint64) []api.Tally {
	var out []api.Tally
	for _, r := range rs {
		out = append(out, api.Tally{Runs: r[0], Missed: r[1], Steps: r[2], Calls: r[3], Sum: r[4]})
	}
	return out
}

// plainly is the sum of two tallies.
func plainly(a, b api.Tally) api.Tally {
	return api.Tally{Runs: a.Runs + b.Runs, Missed: a.Missed + b.Missed, Steps: a.Steps + b.Steps, Calls: a.Calls + b.Calls, Sum: a.Sum + b.Sum}
}

// with are tallies with more at a hook.
func (f four) with(hook int, more api.Tally) four {
	f[hook] = plainly(f[hook], more)
	return f
}

// ran fails if Ran isn't answered so.
func ran(t *testing.T, s *stats.Stats, w api.Errno, hook int, steps, calls, result uint64) {
	t.Helper()
	if e := s.Ran(hook, steps, calls, result); e != w {
		t.Errorf("Ran(%d, %d, %d, %d): %v, want %v", hook, steps, calls, result, e, w)
	}
}

// missed fails if Missed isn't answered so.
func missed(t *testing.T, s *stats.Stats, w api.Errno, hooks ...int) {
	t.Helper()
	if e := s.Missed(hooks...); e != w {
		t.Errorf("Missed of %d hooks, %v: %v, want %v", len(hooks), hooks[:min(len(hooks), 20)], e, w)
	}
}

// want fails if what can be read of Stats isn't these tallies, or if reading changes them.
func want(t *testing.T, when string, s *stats.Stats, w four) {
	t.Helper()
	for range 2 {
		for hook, tally := range w {
			if got, e := s.Of(hook); got != tally || e != api.OK {
				t.Errorf("%s: Of(%d): %v, %v, want %v", when, hook, got, e, tally)
			}
		}
		for _, hook := range noHooks() {
			if got, e := s.Of(hook); got != (api.Tally{}) || e != api.ErrArg {
				t.Errorf("%s: Of(%d): %v, %v", when, hook, got, e)
			}
		}
		if got := stats.Merge(s); !slices.Equal(got, w[:]) {
			t.Errorf("%s: Merge %v, want %v", when, got, w)
		}
	}
}

// merges fails if Merge isn't answered so.
func merges(t *testing.T, when string, w four, ss ...*stats.Stats) {
	t.Helper()
	if got := stats.Merge(ss...); !slices.Equal(got, w[:]) {
		t.Errorf("%s: Merge %v, want %v", when, got, w)
	}
}

// adds fails if Add isn't answered so.
func adds(t *testing.T, w api.Tally, ts ...api.Tally) {
	t.Helper()
	if got := stats.Add(ts...); got != w {
		t.Errorf("Add of %d, %v: %v, want %v", len(ts), ts[:min(len(ts), 20)], got, w)
	}
}

// used are Stats of which each field of each hook is another number, and their tallies.
func used(t *testing.T) (*stats.Stats, four) {
	t.Helper()
	s := stats.New()
	for hook := range 4 {
		for n := range uint64(hook) + 2 {
			ran(t, s, api.OK, hook, 10+n, 100*uint64(hook)+n, 1000+n)
		}
		for range 7 + hook {
			missed(t, s, api.OK, hook)
		}
	}
	w := rows{{2, 7, 21, 1, 2001}, {3, 8, 33, 303, 3003}, {4, 9, 46, 806, 4006}, {5, 10, 60, 1510, 5010}}.tallies()
	want(t, "used", s, w)
	return s, w
}

// TestExamples: the chapter's table.
func TestExamples(t *testing.T) {
	s, u := stats.New(), stats.New()
	ran(t, s, api.OK, 1, 10, 2, 5)
	ran(t, s, api.OK, 1, 4, 0, most)
	ran(t, s, api.ErrArg, 4, 1, 1, 1)
	if got, e := s.Of(1); got != (api.Tally{Runs: 2, Missed: 0, Steps: 14, Calls: 2, Sum: 4}) || e != api.OK {
		t.Errorf("Of(1): %v, %v", got, e)
	}
	if got, e := s.Of(-1); got != (api.Tally{}) || e != api.ErrArg {
		t.Errorf("Of(-1): %v, %v", got, e)
	}
	missed(t, u, api.OK, 1, 1, 0)
	missed(t, u, api.ErrArg, 0, 9)
	if got, e := u.Of(0); got != (api.Tally{Missed: 1}) || e != api.OK {
		t.Errorf("Of(0): %v, %v", got, e)
	}
	merges(t, "with a nil between", rows{{0, 1, 0, 0, 0}, {2, 2, 14, 2, 4}, {}, {}}.tallies(), s, nil, u)
	adds(t, api.Tally{})
	merges(t, "none", four{})
}

// TestNew: P20.1; all tallies are zero, whatever was done to those made ahead of it, and two News answer two Stats.
func TestNew(t *testing.T) {
	a, w := used(t)
	b, c := stats.New(), stats.New()
	if a == nil || b == nil || c == nil || a == b || b == c {
		t.Fatal("New answers none, or one twice")
	}
	want(t, "a new one", b, four{})
	ran(t, b, api.OK, 2, 3, 4, 5)
	missed(t, b, api.OK, 0)
	want(t, "another new one", c, four{})
	want(t, "the old one", a, w)
	want(t, "one behind them", stats.New(), four{})
}

// TestRan: P20.2; at each hook, with all three out of the edges, from new and from used Stats: one run more, and more steps, calls and sum by these numbers; all else stays.
func TestRan(t *testing.T) {
	for hook := range 4 {
		for _, steps := range edges() {
			for _, calls := range edges() {
				for _, result := range edges() {
					more := api.Tally{Runs: 1, Steps: steps, Calls: calls, Sum: result}
					s := stats.New()
					ran(t, s, api.OK, hook, steps, calls, result)
					want(t, "a new one ran", s, four{}.with(hook, more))
				}
			}
		}
	}
	s, w := used(t)
	for hook := range 4 {
		for _, steps := range edges() {
			for _, calls := range edges() {
				for _, result := range edges() {
					more := api.Tally{Runs: 1, Steps: steps, Calls: calls, Sum: result}
					ran(t, s, api.OK, hook, steps, calls, result)
					w = w.with(hook, more)
					want(t, "a used one ran", s, w)
				}
			}
		}
	}
}

// TestRanPasses: P20.2; sums that pass 2^64, in one field by itself and in all three: they begin anew, and no other field has more of it.
func TestRanPasses(t *testing.T) {
	for hook := range 4 {
		for _, one := range []struct{ a, b, sum uint64 }{{most, 1, 0}, {1, most, 0}, {most, most, most - 1}, {1 << 63, 1 << 63, 0}, {1 << 63, 1<<63 - 1, most}, {1<<63 + 5, 1 << 63, 5}} {
			for field, w := range []api.Tally{{Runs: 2, Steps: one.sum}, {Runs: 2, Calls: one.sum}, {Runs: 2, Sum: one.sum}, {Runs: 2, Steps: one.sum, Calls: one.sum, Sum: one.sum}} {
				s := stats.New()
				for _, n := range []uint64{one.a, one.b} {
					ns := [3]uint64{n, n, n}
					for other := range 3 {
						if field < 3 && other != field {
							ns[other] = 0
						}
					}
					ran(t, s, api.OK, hook, ns[0], ns[1], ns[2])
				}
				want(t, "passed", s, four{}.with(hook, w))
			}
		}
	}
}

// TestRanNoHook: P20.2, rule 3; ErrArg, and all four tallies stay, whatever the numbers are.
func TestRanNoHook(t *testing.T) {
	s, w := used(t)
	for _, hook := range noHooks() {
		for _, n := range edges() {
			ran(t, s, api.ErrArg, hook, n, 1, 1)
			ran(t, s, api.ErrArg, hook, 1, n, 1)
			ran(t, s, api.ErrArg, hook, 1, 1, n)
		}
		want(t, "refused", s, w)
	}
	ran(t, s, api.OK, 3, 1, 2, 3)
	want(t, "behind refusals", s, w.with(3, api.Tally{Runs: 1, Steps: 1, Calls: 2, Sum: 3}))
}

// TestMany: P20.2; Runs and Missed go on beyond what two bytes hold.
func TestMany(t *testing.T) {
	s := stats.New()
	for range 70000 {
		ran(t, s, api.OK, 1, 3, 2, 1)
		missed(t, s, api.OK, 2)
	}
	want(t, "70000 each", s, four{{}, {Runs: 70000, Steps: 210000, Calls: 140000, Sum: 70000}, {Missed: 70000}, {}})
}

// everyList calls f with all lists of up to so many of these numbers, repeats too.
func everyList(most int, of []int, f func(list []int)) {
	var list []int
	var longer func()
	longer = func() {
		f(list)
		if len(list) == most {
			return
		}
		for _, n := range of {
			list = append(list, n)
			longer()
			list = list[:len(list)-1]
		}
	}
	longer()
}

// TestMissed: P20.2; all lists of up to five hooks: of each as often as it stands there one more, all else stays.
func TestMissed(t *testing.T) {
	s, w := used(t)
	everyList(5, []int{0, 1, 2, 3}, func(list []int) {
		missed(t, s, api.OK, list...)
		for _, hook := range list {
			w = w.with(hook, api.Tally{Missed: 1})
		}
		want(t, "missed", s, w)
	})
}

// TestMissedByHand: P20.2; none, one, all, and one that stands there twice, next to one another and apart.
func TestMissedByHand(t *testing.T) {
	for _, one := range []struct {
		hooks []int
		n     [4]uint64
	}{
		{nil, [4]uint64{}},
		{[]int{}, [4]uint64{}},
		{[]int{0}, [4]uint64{1, 0, 0, 0}},
		{[]int{1}, [4]uint64{0, 1, 0, 0}},
		{[]int{2}, [4]uint64{0, 0, 1, 0}},
		{[]int{3}, [4]uint64{0, 0, 0, 1}},
		{[]int{0, 1, 2, 3}, [4]uint64{1, 1, 1, 1}},
		{[]int{3, 2, 1, 0}, [4]uint64{1, 1, 1, 1}},
		{[]int{2, 2}, [4]uint64{0, 0, 2, 0}},
		{[]int{0, 3, 0}, [4]uint64{2, 0, 0, 1}},
		{[]int{3, 1, 1, 0, 3, 1}, [4]uint64{1, 3, 0, 2}},
		{[]int{3, 3, 3, 3, 3}, [4]uint64{0, 0, 0, 5}},
	} {
		s := stats.New()
		missed(t, s, api.OK, one.hooks...)
		var w four
		for hook, n := range one.n {
			w[hook].Missed = n
		}
		want(t, "missed", s, w)
	}
}

// TestMissedNoHook: P20.2, rule 3; each number of no hook, first, in the middle and last, alone and more than once: ErrArg, and all four tallies stay.
func TestMissedNoHook(t *testing.T) {
	s, w := used(t)
	for _, no := range noHooks() {
		for _, list := range [][]int{{no}, {no, 0}, {no, 0, 1, 2, 3}, {0, no}, {0, 1, no, 2, 3}, {1, no, 1}, {0, 1, 2, 3, no}, {2, 2, no}, {no, no}, {no, 3, no}, {3, no, no, 3}, {3, -1, no, 4}} {
			missed(t, s, api.ErrArg, list...)
			want(t, "refused", s, w)
		}
	}
	missed(t, s, api.OK, 0, 3)
	want(t, "behind refusals", s, w.with(0, api.Tally{Missed: 1}).with(3, api.Tally{Missed: 1}))
}

// TestMissedEveryList: P20.2, rule 3; all lists of up to four out of the hooks and the numbers beside them.
func TestMissedEveryList(t *testing.T) {
	s, w := used(t)
	everyList(4, []int{-1, 0, 1, 2, 3, 4}, func(list []int) {
		if slices.Contains(list, -1) || slices.Contains(list, 4) {
			missed(t, s, api.ErrArg, list...)
		} else {
			missed(t, s, api.OK, list...)
			for _, hook := range list {
				w = w.with(hook, api.Tally{Missed: 1})
			}
		}
		want(t, "missed", s, w)
	})
}

// TestMissedLong: P20.2; a long list, and the same with one that is no hook first, in the middle or last.
func TestMissedLong(t *testing.T) {
	const long = 100001
	list := make([]int, long)
	var w four
	for i := range list {
		list[i] = (i * i) % 7 % 4
		w[list[i]].Missed++
	}
	s := stats.New()
	missed(t, s, api.OK, list...)
	want(t, "a long list", s, w)
	for _, at := range []int{0, 1, long / 2, long - 2, long - 1} {
		for _, no := range []int{-1, 4, math.MinInt, math.MaxInt} {
			was := list[at]
			list[at] = no
			missed(t, s, api.ErrArg, list...)
			list[at] = was
			want(t, "a long list refused", s, w)
		}
	}
	s = stats.New()
	missed(t, s, api.OK, make([]int, long)...)
	want(t, "one hook a long list", s, four{{Missed: long}, {}, {}, {}})
}

// TestOf: P20.3; each hook's own tally, wherever it is asked between the others.
func TestOf(t *testing.T) {
	s, w := used(t)
	everyList(4, []int{0, 1, 2, 3, 4}, func(list []int) {
		for _, hook := range list {
			got, e := s.Of(hook)
			if hook == 4 && (got != (api.Tally{}) || e != api.ErrArg) {
				t.Errorf("Of(4): %v, %v", got, e)
			}
			if hook < 4 && (got != w[hook] || e != api.OK) {
				t.Errorf("Of(%d): %v, %v, want %v", hook, got, e, w[hook])
			}
		}
	})
	want(t, "asked", s, w)
}

// single is a tally of which one field, from Runs (0) to Sum (4), is this number.
func single(field int, n uint64) api.Tally {
	return []api.Tally{{Runs: n}, {Missed: n}, {Steps: n}, {Calls: n}, {Sum: n}}[field]
}

// TestAdd: P20.3; none, one, two and several, with all edges in each of the five fields: their sum modulo 2^64 in that field, and no other has any of it.
func TestAdd(t *testing.T) {
	adds(t, api.Tally{})
	adds(t, api.Tally{}, []api.Tally{}...)
	adds(t, api.Tally{}, api.Tally{}, api.Tally{}, api.Tally{})
	for field := range 5 {
		for _, a := range edges() {
			adds(t, single(field, a), single(field, a))
			adds(t, single(field, 2*a), single(field, a), single(field, a))
			for _, b := range edges() {
				adds(t, single(field, a+b), single(field, a), single(field, b))
				for _, c := range edges() {
					adds(t, single(field, a+b+c), single(field, a), single(field, b), single(field, c))
				}
			}
		}
	}
}

// TestAddByHand: P20.3; whole tallies, and sums that pass 2^64 in each field.
func TestAddByHand(t *testing.T) {
	one, two := api.Tally{Runs: 1, Missed: 2, Steps: 3, Calls: 4, Sum: 5}, api.Tally{Runs: 60, Missed: 50, Steps: 40, Calls: 30, Sum: 20}
	full := api.Tally{Runs: most, Missed: most, Steps: most, Calls: most, Sum: most}
	adds(t, one, one)
	adds(t, full, full)
	adds(t, api.Tally{Runs: 2, Missed: 4, Steps: 6, Calls: 8, Sum: 10}, one, one)
	adds(t, api.Tally{Runs: 61, Missed: 52, Steps: 43, Calls: 34, Sum: 25}, one, two)
	adds(t, api.Tally{Runs: 62, Missed: 54, Steps: 46, Calls: 38, Sum: 30}, one, two, one)
	adds(t, api.Tally{Runs: 0, Missed: 1, Steps: 2, Calls: 3, Sum: 4}, full, one)
	adds(t, api.Tally{Runs: most - 1, Missed: most - 1, Steps: most - 1, Calls: most - 1, Sum: most - 1}, full, full)
	for field, n := range []uint64{0, 1, 2, 3, 4} {
		w := one
		switch field {
		case 0:
			w.Runs = n
		case 1:
			w.Missed = n
		case 2:
			w.Steps = n
		case 3:
			w.Calls = n
		case 4:
			w.Sum = n
		}
		adds(t, w, one, single(field, most))
		adds(t, w, single(field, most), one)
		adds(t, w, single(field, 1<<63), one, single(field, 1<<63-1))
	}
}

// TestAddLong: P20.3; a long list of one tally and of many.
func TestAddLong(t *testing.T) {
	ts := make([]api.Tally, 70001)
	for i := range ts {
		ts[i] = api.Tally{Runs: 1, Missed: 3, Steps: uint64(i), Calls: most, Sum: 1 << 48}
	}
	adds(t, api.Tally{Runs: 70001, Missed: 210003, Steps: 70000 * 70001 / 2, Calls: most - 70000, Sum: 70001 % (1 << 16) << 48}, ts...)
}

// TestAddParted: P20.3, P20.4; a list's sum is that of the sums of its parts, in any order.
func TestAddParted(t *testing.T) {
	ts := listed([][5]uint64{{1, 2, 3, 4, most}, {most, 1, 0, 7, 9}, {0, 1 << 63, 5, 0, 0}, {3, 1 << 63, most, most, 2}, {}})
	w := stats.Add(ts...)
	if w != (api.Tally{Runs: 3, Missed: 3, Steps: 7, Calls: 10, Sum: 10}) {
		t.Fatalf("Add: %v", w)
	}
	for at := range len(ts) + 1 {
		adds(t, w, stats.Add(ts[:at]...), stats.Add(ts[at:]...))
		adds(t, w, stats.Add(ts[at:]...), stats.Add(ts[:at]...))
	}
	everyOrder(len(ts), func(order []int) {
		var mixed []api.Tally
		for _, i := range order {
			mixed = append(mixed, ts[i])
		}
		adds(t, w, mixed...)
	})
}

// everyOrder calls f with the numbers below n in all orders.
func everyOrder(n int, f func(order []int)) {
	var order []int
	var longer func()
	longer = func() {
		if len(order) == n {
			f(order)
			return
		}
		for i := range n {
			if !slices.Contains(order, i) {
				order = append(order, i)
				longer()
				order = order[:len(order)-1]
			}
		}
	}
	longer()
}

// three are Stats with unlike tallies, which pass 2^64 when they are added up, and these tallies.
func three(t *testing.T) ([]*stats.Stats, []four) {
	t.Helper()
	a, w := used(t)
	b, c := stats.New(), stats.New()
	ran(t, b, api.OK, 0, most, 1<<63, 5)
	ran(t, b, api.OK, 3, 2, most, most)
	missed(t, b, api.OK, 3, 3, 1)
	ran(t, c, api.OK, 0, 1, 1<<63, most)
	missed(t, c, api.OK, 2)
	return []*stats.Stats{a, b, c}, []four{w,
		rows{{1, 0, most, 1 << 63, 5}, {0, 1, 0, 0, 0}, {}, {1, 2, 2, most, most}}.tallies(),
		rows{{1, 0, 1, 1 << 63, most}, {}, {0, 1, 0, 0, 0}, {}}.tallies()}
}

// TestMergeByHand: P20.3; none, one, several, nils, and one that stands there twice.
func TestMergeByHand(t *testing.T) {
	ss, ws := three(t)
	a, b, c := ss[0], ss[1], ss[2]
	ab := rows{{3, 7, 20, 1<<63 + 1, 2006}, {3, 9, 33, 303, 3003}, {4, 9, 46, 806, 4006}, {6, 12, 62, 1509, 5009}}.tallies()
	abc := rows{{4, 7, 21, 1, 2005}, {3, 9, 33, 303, 3003}, {4, 10, 46, 806, 4006}, {6, 12, 62, 1509, 5009}}.tallies()
	bb := rows{{2, 0, most - 1, 0, 10}, {0, 2, 0, 0, 0}, {}, {2, 4, 4, most - 1, most - 1}}.tallies()
	bbc := rows{{3, 0, most, 1 << 63, 9}, {0, 2, 0, 0, 0}, {0, 1, 0, 0, 0}, {2, 4, 4, most - 1, most - 1}}.tallies()
	merges(t, "none", four{})
	merges(t, "an empty list", four{}, []*stats.Stats{}...)
	merges(t, "a nil", four{}, nil)
	merges(t, "nils alone", four{}, nil, nil, nil)
	merges(t, "a new one", four{}, stats.New())
	merges(t, "one", ws[0], a)
	merges(t, "one", ws[1], b)
	merges(t, "one", ws[2], c)
	merges(t, "one and a new one", ws[1], stats.New(), b, stats.New())
	merges(t, "two", ab, a, b)
	merges(t, "two, turned", ab, b, a)
	merges(t, "three", abc, a, b, c)
	merges(t, "a nil first", ab, nil, a, b)
	merges(t, "a nil in the middle", ab, a, nil, b)
	merges(t, "a nil last", ab, a, b, nil)
	merges(t, "nils all over", abc, nil, nil, c, nil, a, nil, nil, b, nil, nil)
	merges(t, "one twice", bb, b, b)
	merges(t, "one twice, a nil between", bb, b, nil, b)
	merges(t, "one twice, another between", bbc, b, c, b)
	merges(t, "one twice, another behind", bbc, b, b, c)
	for i, s := range ss {
		want(t, "merged", s, ws[i])
	}
}

// TestMergeEveryList: P20.3; all lists of up to five out of a nil and three Stats, held against the sums of their tallies; they stay as they were.
func TestMergeEveryList(t *testing.T) {
	ss, ws := three(t)
	everyList(5, []int{-1, 0, 1, 2}, func(list []int) {
		var handed []*stats.Stats
		var w four
		for _, i := range list {
			if i < 0 {
				handed = append(handed, nil)
				continue
			}
			handed = append(handed, ss[i])
			for hook, more := range ws[i] {
				w = w.with(hook, more)
			}
		}
		merges(t, "a list", w, handed...)
	})
	for i, s := range ss {
		want(t, "merged", s, ws[i])
	}
}

// TestMergeLong: P20.3; a long list of one, with nils between.
func TestMergeLong(t *testing.T) {
	s := stats.New()
	ran(t, s, api.OK, 2, 3, most, 1<<48)
	missed(t, s, api.OK, 3)
	ss := make([]*stats.Stats, 140001)
	for i := range ss {
		if i%2 == 0 {
			ss[i] = s
		}
	}
	merges(t, "a long list", rows{{}, {}, {70001, 0, 210003, most - 70000, 70001 % (1 << 16) << 48}, {0, 70001, 0, 0, 0}}.tallies(), ss...)
}

// TestMergeIsAdd: P20.3; Merge is Add of what Of answers, hook by hook.
func TestMergeIsAdd(t *testing.T) {
	ss, _ := three(t)
	got := stats.Merge(ss...)
	for hook := range 4 {
		var ts []api.Tally
		for _, s := range ss {
			tally, _ := s.Of(hook)
			ts = append(ts, tally)
		}
		if len(got) != 4 || got[hook] != stats.Add(ts...) {
			t.Errorf("hook %d: Merge %v, Add %v", hook, got, stats.Add(ts...))
		}
	}
}

// TestMergeSeesLater: P20.3, rule 7; Merge tells what the tallies are when it is called, not when it was called first, and what it answered stays.
func TestMergeSeesLater(t *testing.T) {
	s, u := stats.New(), stats.New()
	first := stats.Merge(s, u)
	ran(t, s, api.OK, 0, 1, 2, 3)
	second := stats.Merge(s, u)
	missed(t, u, api.OK, 0, 3)
	third := stats.Merge(s, u)
	for i, got := range [][]api.Tally{first, second, third} {
		w := []rows{{}, {{1, 0, 1, 2, 3}}, {{1, 1, 1, 2, 3}, {}, {}, {0, 1, 0, 0, 0}}}[i]
		if !slices.Equal(got, listed(w[:])) {
			t.Errorf("Merge %d: %v, want %v", i, got, w)
		}
	}
}

// TestHandedToMissed: rule 5; the hooks that Missed is handed, and the room around them, stay as they were, and nothing hangs on them later.
func TestHandedToMissed(t *testing.T) {
	for _, list := range [][]int{{}, {0}, {3, 1}, {2, 2, 0, 3}, {1, 0, 1, 0, 1}, {4}, {0, -1}, {9, 2, 2}, {3, 2, 4, 0}} {
		for room := range 3 {
			s, w := used(t)
			whole := append(append([]int{1, 77}, list...), 2, 99)
			was, end := slices.Clone(whole), len(list)+2
			e := s.Missed(whole[2 : end : end+room]...)
			if !slices.Equal(whole, was) {
				t.Fatalf("Missed(%v) left %v of %v", list, whole, was)
			}
			if e == api.OK {
				for _, hook := range list {
					w = w.with(hook, api.Tally{Missed: 1})
				}
			}
			for i := range whole {
				whole[i] = 3
			}
			want(t, "the list written over", s, w)
		}
	}
}

// TestHandedToAdd: rule 5; the tallies that Add is handed, and the room around them, stay as they were, and its answer hangs on them no more.
func TestHandedToAdd(t *testing.T) {
	around := [5]uint64{7, 7, 7, 7, 7}
	for many := range 6 {
		for room := range 3 {
			whole := listed([][5]uint64{around, {1, most, 3, 4, 5}, {most, 2, 1, 0, 9}, {}, {3, 3, most, most, most}, {1, 2, 3, 4, 5}, around, around})
			was := slices.Clone(whole)
			var w api.Tally
			for _, tally := range was[1 : 1+many] {
				w = plainly(w, tally)
			}
			got := stats.Add(whole[1 : 1+many : 1+many+room]...)
			if !slices.Equal(whole, was) {
				t.Fatalf("Add left %v of %v", whole, was)
			}
			clear(whole)
			if got != w {
				t.Errorf("Add of %d: %v, want %v", many, got, w)
			}
		}
	}
}

// TestHandedToMerge: rule 5; the list that Merge is handed, the room around it and the Stats themselves stay as they were, and its answer hangs on them no more.
func TestHandedToMerge(t *testing.T) {
	for many := range 6 {
		for room := range 3 {
			ss, ws := three(t)
			other := stats.New()
			whole := []*stats.Stats{other, ss[0], nil, ss[1], ss[2], ss[0], other, nil}
			was := slices.Clone(whole)
			var w four
			for _, s := range was[1 : 1+many] {
				if i := slices.Index(ss, s); i >= 0 {
					for hook, more := range ws[i] {
						w = w.with(hook, more)
					}
				}
			}
			got := stats.Merge(whole[1 : 1+many : 1+many+room]...)
			if !slices.Equal(whole, was) {
				t.Fatalf("Merge of %d left another list", many)
			}
			for i, s := range ss {
				want(t, "merged", s, ws[i])
				ran(t, s, api.OK, i, 1, 1, 1)
			}
			want(t, "beside the list", other, four{})
			clear(whole)
			if !slices.Equal(got, w[:]) {
				t.Errorf("Merge of %d: %v, want %v", many, got, w)
			}
		}
	}
}

// spoil appends to a list and writes over it and its spare room.
func spoil(list []api.Tally) {
	_ = append(list, api.Tally{Runs: 66, Sum: 67})
	list = list[:cap(list)]
	for i := range list {
		list[i] = api.Tally{Runs: 77, Missed: 78, Steps: 79, Calls: 80, Sum: uint64(i)}
	}
}

// TestAnswersAreNew: P20.3, rule 5; what Merge answers may be written over, its spare room too, and appended to, with nothing changed, and no two answers share memory.
func TestAnswersAreNew(t *testing.T) {
	ss, ws := three(t)
	for _, list := range [][]*stats.Stats{nil, {nil}, {nil, nil}, {ss[0]}, {ss[1]}, {nil, ss[2]}, {ss[0], ss[1], ss[2]}, {ss[0], ss[0]}, {ss[2], nil, ss[2], ss[1]}} {
		first, second := stats.Merge(list...), stats.Merge(list...)
		kept := slices.Clone(second)
		spoil(first)
		if !slices.Equal(second, kept) {
			t.Errorf("%d: two answers share memory", len(list))
		}
		for i, s := range ss {
			want(t, "an answer spoilt", s, ws[i])
		}
		if third := stats.Merge(list...); !slices.Equal(third, kept) {
			t.Errorf("%d: behind a spoilt answer %v, want %v", len(list), third, kept)
		}
	}
	merges(t, "none", four{})
	want(t, "a new one", stats.New(), four{})
}

// TestApart: rule 7; what is told to some Stats isn't seen in others.
func TestApart(t *testing.T) {
	a, b := stats.New(), stats.New()
	ran(t, a, api.OK, 1, 2, 3, 4)
	want(t, "the other", b, four{})
	missed(t, b, api.OK, 1, 0)
	want(t, "the one", a, rows{{}, {1, 0, 2, 3, 4}}.tallies())
	want(t, "the other", b, rows{{0, 1, 0, 0, 0}, {0, 1, 0, 0, 0}}.tallies())
	missed(t, a, api.OK, 3)
	ran(t, b, api.OK, 1, 1, 1, 1)
	want(t, "the one", a, rows{{}, {1, 0, 2, 3, 4}, {}, {0, 1, 0, 0, 0}}.tallies())
	want(t, "the other", b, rows{{0, 1, 0, 0, 0}, {1, 1, 1, 1, 1}}.tallies())
}

// TestEmbedded: a struct that embeds Stats has their methods, and tells the same.
func TestEmbedded(t *testing.T) {
	both := struct{ *stats.Stats }{stats.New()}
	if both.Ran(2, 5, 6, 7) != api.OK || both.Missed(2, 0) != api.OK || both.Ran(-1, 5, 6, 7) != api.ErrArg {
		t.Error("Ran and Missed of what embeds Stats")
	}
	if got, e := both.Of(2); got != (api.Tally{Runs: 1, Missed: 1, Steps: 5, Calls: 6, Sum: 7}) || e != api.OK {
		t.Errorf("Of(2): %v, %v", got, e)
	}
	want(t, "embedded", both.Stats, rows{{0, 1, 0, 0, 0}, {}, {1, 1, 5, 6, 7}, {}}.tallies())
}
