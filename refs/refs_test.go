package refs_test

import (
	"math"
	"slices"
	"testing"

	"tappet/api"
	"tappet/refs"
)

// made is new refs.
func made(t *testing.T, maps int) *refs.Refs {
	t.Helper()
	r, e := refs.New(maps)
	if r == nil || e != api.OK {
		t.Fatalf("New(%d): %v, %v", maps, r, e)
	}
	return r
}

// hold is a program and what it holds.
type hold struct {
	prog int
	maps []int
}

// with is new refs, and these hold, in this order.
func with(t *testing.T, maps int, hs ...hold) *refs.Refs {
	t.Helper()
	r := made(t, maps)
	for _, h := range hs {
		holds(t, r, api.OK, h.prog, h.maps...)
	}
	return r
}

// holds fails if Hold isn't answered so.
func holds(t *testing.T, r *refs.Refs, w api.Errno, prog int, maps ...int) {
	t.Helper()
	if e := r.Hold(prog, maps...); e != w {
		t.Errorf("Hold(%d, %v): %v, want %v", prog, maps, e, w)
	}
}

// drops fails if Drop isn't answered so.
func drops(t *testing.T, r *refs.Refs, w api.Errno, progs ...int) {
	t.Helper()
	if e := r.Drop(progs...); e != w {
		t.Errorf("Drop(%v): %v, want %v", progs, e, w)
	}
}

// counts fails if Count isn't answered so.
func counts(t *testing.T, r *refs.Refs, m, n int, w api.Errno) {
	t.Helper()
	if got, e := r.Count(m); got != n || e != w {
		t.Errorf("Count(%d): %d, %v, want %d, %v", m, got, e, n, w)
	}
}

// holders fails if these aren't a map's holders.
func holders(t *testing.T, r *refs.Refs, m int, progs ...int) {
	t.Helper()
	if got := r.Holders(m); !slices.Equal(got, progs) {
		t.Errorf("Holders(%d): %v, want %v", m, got, progs)
	}
}

// held fails if a program doesn't hold just these maps.
func held(t *testing.T, r *refs.Refs, prog int, maps ...int) {
	t.Helper()
	if got, ok := r.Held(prog); !slices.Equal(got, maps) || !ok {
		t.Errorf("Held(%d): %v, %t, want %v", prog, got, ok, maps)
	}
}

// free fails if one of these programs holds.
func free(t *testing.T, r *refs.Refs, progs ...int) {
	t.Helper()
	for _, p := range progs {
		if got, ok := r.Held(p); len(got) != 0 || ok {
			t.Errorf("Held(%d): %v, %t, want none", p, got, ok)
		}
	}
}

// noMaps are numbers of no map where there are so many: those beside them, far ones, and such that are a map's modulo 2^8, 2^16 or 2^32, or but for their sign.
func noMaps(maps int) []int {
	out := []int{math.MinInt, math.MinInt + 1, math.MinInt32, -1 << 32, -1<<32 + 1, -65536, -256, -255, -4, -3, -2, -1,
		256, 257, 65536, 65537, math.MaxInt32, 1 << 32, 1<<32 + 1, math.MaxInt - 1, math.MaxInt}
	for m := maps; m <= 20; m++ {
		out = append(out, m)
	}
	return out
}

// somePrograms are numbers of programs, mixed: about 0, at the ends, and such that are one another modulo 2^8, 2^16 or 2^32, or but for their sign.
func somePrograms() []int {
	return []int{7, -5, 0, math.MaxInt, 263, -1, 1, math.MinInt, 1<<32 + 7, 5, 65543, -7, math.MaxInt32, 4, 2, -256, 3, math.MaxInt - 1, math.MinInt32, 1 << 32, math.MinInt + 1}
}

// want fails if what can be read of refs of so many maps isn't that these hold, and nobody else does.
func want(t *testing.T, when string, r *refs.Refs, maps int, hs ...hold) {
	t.Helper()
	for m := range maps {
		var progs []int
		for _, h := range hs {
			if slices.Contains(h.maps, m) {
				progs = append(progs, h.prog)
			}
		}
		slices.Sort(progs)
		if got := r.Holders(m); !slices.Equal(got, progs) {
			t.Errorf("%s: Holders(%d): %v, want %v", when, m, got, progs)
		}
		if n, e := r.Count(m); n != len(progs) || e != api.OK {
			t.Errorf("%s: Count(%d): %d, %v, want %d", when, m, n, e, len(progs))
		}
	}
	for _, m := range noMaps(maps) {
		if got := r.Holders(m); len(got) != 0 {
			t.Errorf("%s: Holders(%d): %v", when, m, got)
		}
		if n, e := r.Count(m); n != 0 || e != api.ErrArg {
			t.Errorf("%s: Count(%d): %d, %v", when, m, n, e)
		}
	}
	for _, h := range hs {
		if got, ok := r.Held(h.prog); !slices.Equal(got, h.maps) || !ok {
			t.Errorf("%s: Held(%d): %v, %t, want %v", when, h.prog, got, ok, h.maps)
		}
	}
	for _, p := range append(somePrograms(), 8, 9, 10, 100, -100) {
		if slices.ContainsFunc(hs, func(h hold) bool { return h.prog == p }) {
			continue
		}
		if got, ok := r.Held(p); len(got) != 0 || ok {
			t.Errorf("%s: Held(%d): %v, %t, want none", when, p, got, ok)
		}
	}
}

// repeated tells whether a number stands there twice.
func repeated(ns []int) bool {
	for i, n := range ns {
		if slices.Contains(ns[i+1:], n) {
			return true
		}
	}
	return false
}

// everyList calls f with all lists of up to so many of these numbers, repeats too.
func everyList(most int, of []int, f func(ns []int)) {
	var ns []int
	var longer func()
	longer = func() {
		f(ns)
		if len(ns) == most {
			return
		}
		for _, n := range of {
			ns = append(ns, n)
			longer()
			ns = ns[:len(ns)-1]
		}
	}
	longer()
}

// everyChoice calls f with all lists of the maps of refs of so many, in each order, none of them twice.
func everyChoice(maps int, f func(ns []int)) {
	everyList(maps, numbers(maps), func(ns []int) {
		if !repeated(ns) {
			f(ns)
		}
	})
}

// numbers are the numbers from 0 on, so many of them.
func numbers(many int) []int {
	var out []int
	for n := range many {
		out = append(out, n)
	}
	return out
}

// put is a list with one number more, at a place.
func put(ns []int, at, n int) []int {
	return slices.Insert(slices.Clone(ns), at, n)
}

// TestExamples: the chapter's table.
func TestExamples(t *testing.T) {
	r := made(t, 3)
	holds(t, r, api.OK, 7, 2, 0)
	holds(t, r, api.ErrBusy, 7)
	holds(t, r, api.ErrArg, 8, 3)
	holds(t, r, api.ErrArg, 8, 1, 1)
	holds(t, r, api.OK, -5, 2)
	counts(t, r, 2, 2, api.OK)
	counts(t, r, 1, 0, api.OK)
	counts(t, r, 3, 0, api.ErrArg)
	holders(t, r, 2, -5, 7)
	held(t, r, 7, 2, 0)
	drops(t, r, api.ErrArg, 7, 7)
	drops(t, r, api.ErrNone, 7, 9)
	drops(t, r, api.OK, 7, -5)
	counts(t, r, 2, 0, api.OK)
	free(t, r, 7)
	holds(t, r, api.OK, 4)
	held(t, r, 4)
	free(t, r, 5)
}

// TestNew: P18.1; just 0 to 4 maps, which nobody holds; else nil and ErrArg.
func TestNew(t *testing.T) {
	ns := noMaps(0)
	for n := -300; n <= 300; n++ {
		ns = append(ns, n)
	}
	for _, n := range ns {
		r, e := refs.New(n)
		if n >= 0 && n <= 4 {
			if r == nil || e != api.OK {
				t.Fatalf("New(%d): %v, %v", n, r, e)
			}
			want(t, "new ones", r, n)
		} else if r != nil || e != api.ErrArg {
			t.Errorf("New(%d): %v, %v", n, r, e)
		}
	}
}

// TestNewIsNew: P18.1; nobody holds new ones, whatever was done to those made ahead of them, and two News answer two refs.
func TestNewIsNew(t *testing.T) {
	for maps := 0; maps <= 4; maps++ {
		a := with(t, maps, hold{7, numbers(maps)}, hold{8, nil})
		b := made(t, maps)
		if a == b {
			t.Fatal("New answers one refs twice")
		}
		want(t, "new ones", b, maps)
		want(t, "old ones", a, maps, hold{7, numbers(maps)}, hold{8, nil})
	}
}

// TestHold: P18.2; no map, one, several and all, in each order, by any program, alone and beside others.
func TestHold(t *testing.T) {
	for maps := 0; maps <= 4; maps++ {
		everyChoice(maps, func(ns []int) {
			for _, p := range somePrograms() {
				r := made(t, maps)
				holds(t, r, api.OK, p, ns...)
				want(t, "alone", r, maps, hold{p, ns})

				r = with(t, maps, hold{100, numbers(maps)}, hold{-100, nil})
				holds(t, r, api.OK, p, ns...)
				want(t, "beside others", r, maps, hold{100, numbers(maps)}, hold{-100, nil}, hold{p, ns})
			}
		})
	}
}

// TestHoldOfNothing: P18.2; a program that holds no map holds all the same, be the list left out, nil or empty, and there be maps or none.
func TestHoldOfNothing(t *testing.T) {
	for maps := 0; maps <= 4; maps++ {
		for _, ns := range [][]int{nil, {}, make([]int, 0, 4)} {
			r := made(t, maps)
			holds(t, r, api.OK, 3, ns...)
			want(t, "a list", r, maps, hold{3, nil})
			holds(t, r, api.ErrBusy, 3)
		}
		r := made(t, maps)
		if e := r.Hold(3); e != api.OK {
			t.Errorf("Hold(3): %v", e)
		}
		want(t, "left out", r, maps, hold{3, nil})
		holds(t, r, api.ErrBusy, 3)
		drops(t, r, api.OK, 3)
	}
}

// TestHoldOfNoMap: P18.2; a number of no map alone, or first, in the middle or last among maps: ErrArg, whether the program holds already or not.
func TestHoldOfNoMap(t *testing.T) {
	for maps := 0; maps <= 4; maps++ {
		for _, wrong := range noMaps(maps) {
			everyChoice(maps, func(ns []int) {
				for at := 0; at <= len(ns); at++ {
					r := with(t, maps, hold{1, numbers(maps)}, hold{2, nil})
					for p := 1; p <= 3; p++ {
						holds(t, r, api.ErrArg, p, put(ns, at, wrong)...)
					}
					want(t, "refused", r, maps, hold{1, numbers(maps)}, hold{2, nil})
				}
			})
		}
	}
}

// TestHoldTwice: P18.2; a map that stands there twice, next to itself or apart: ErrArg, whether the program holds already or not.
func TestHoldTwice(t *testing.T) {
	for maps := 1; maps <= 4; maps++ {
		everyChoice(maps, func(ns []int) {
			for _, again := range ns {
				for at := 0; at <= len(ns); at++ {
					r := with(t, maps, hold{1, numbers(maps)}, hold{2, nil})
					for p := 1; p <= 3; p++ {
						holds(t, r, api.ErrArg, p, put(ns, at, again)...)
					}
					want(t, "refused", r, maps, hold{1, numbers(maps)}, hold{2, nil})
				}
			}
		})
	}
}

// TestHoldWrittenOut: P18.2; some of what is refused, number by number.
func TestHoldWrittenOut(t *testing.T) {
	r := made(t, 3)
	for _, ns := range [][]int{
		{-1}, {3}, {4}, {math.MaxInt}, {math.MinInt},
		{-1, 0, 1}, {0, -1, 1}, {0, 1, -1},
		{3, 0, 1}, {0, 3, 1}, {0, 1, 3},
		{math.MaxInt, 2, 1}, {2, math.MaxInt, 1}, {2, 1, math.MaxInt},
		{math.MinInt, 2, 1}, {2, math.MinInt, 1}, {2, 1, math.MinInt},
		{0, 0}, {2, 2}, {0, 0, 1}, {1, 0, 0}, {0, 1, 0}, {0, 1, 2, 0}, {2, 1, 0, 1}, {1, 1, 1},
		{-1, -1}, {3, 3}, {3, 1, 3}, {-1, 3}, {1, 1, 3}, {3, 1, 1},
		{0, 1, 2, 3}, {2, 1, 0, -1}, {0, 1, 2, 0, 1, 2},
	} {
		holds(t, r, api.ErrArg, 5, ns...)
		want(t, "refused", r, 3)
	}
	holds(t, r, api.OK, 5, 2, 1, 0)
	want(t, "held", r, 3, hold{5, []int{2, 1, 0}})
}

// TestHoldEveryList: P18.2; all lists up to one longer than there are maps, of the maps and of those beside them: OK just where each is a map and none stands there twice; by one that holds already ErrBusy there, and else ErrArg.
func TestHoldEveryList(t *testing.T) {
	for maps := 0; maps <= 4; maps++ {
		of := append(numbers(maps), -1, maps)
		everyList(maps+1, of, func(ns []int) {
			right := !repeated(ns) && !slices.Contains(ns, -1) && !slices.Contains(ns, maps)
			first, busy := api.ErrArg, api.ErrArg
			if right {
				first, busy = api.OK, api.ErrBusy
			}
			r := with(t, maps, hold{1, numbers(maps)}, hold{2, nil})
			holds(t, r, busy, 1, ns...)
			holds(t, r, busy, 2, ns...)
			holds(t, r, first, 3, ns...)
			behind := []hold{{1, numbers(maps)}, {2, nil}}
			if right {
				behind = append(behind, hold{3, slices.Clone(ns)})
			}
			want(t, "behind", r, maps, behind...)
		})
	}
}

// TestHoldLong: P18.2; lists far longer than there are maps are ErrArg.
func TestHoldLong(t *testing.T) {
	for maps := 0; maps <= 4; maps++ {
		r := made(t, maps)
		for _, many := range []int{5, 6, 8, 16, 17, 255, 256, 257, 65536, 100000} {
			holds(t, r, api.ErrArg, 1, make([]int, many)...)
			holds(t, r, api.ErrArg, 1, numbers(many)...)
			want(t, "refused", r, maps)
		}
	}
}

// TestHoldBusy: P18.2; one that holds, be it nothing, is ErrBusy with any maps, the same, others, more, fewer or none, and holds what it held.
func TestHoldBusy(t *testing.T) {
	for maps := 0; maps <= 4; maps++ {
		everyChoice(maps, func(had []int) {
			had = slices.Clone(had)
			everyChoice(maps, func(ns []int) {
				r := with(t, maps, hold{-9, had})
				holds(t, r, api.ErrBusy, -9, ns...)
				if got, ok := r.Held(-9); !slices.Equal(got, had) || !ok {
					t.Errorf("Held: %v, %t, want %v", got, ok, had)
				}
			})
			r := with(t, maps, hold{-9, had})
			holds(t, r, api.ErrBusy, -9)
			holds(t, r, api.ErrBusy, -9, numbers(maps)...)
			want(t, "refused", r, maps, hold{-9, had})
		})
	}
}

// TestArgAheadOfBusy: P18.2, rule 1; where the list is wrong and the program holds already, ErrArg.
func TestArgAheadOfBusy(t *testing.T) {
	r := with(t, 3, hold{7, []int{2, 0}}, hold{8, nil})
	for _, p := range []int{7, 8} {
		holds(t, r, api.ErrArg, p, 3)
		holds(t, r, api.ErrArg, p, -1)
		holds(t, r, api.ErrArg, p, 1, 1)
		holds(t, r, api.ErrArg, p, 1, 0, 1)
		holds(t, r, api.ErrArg, p, 2, 0, 9)
		holds(t, r, api.ErrArg, p, 9, 9)
		holds(t, r, api.ErrBusy, p, 1)
		holds(t, r, api.ErrBusy, p)
	}
	want(t, "refused", r, 3, hold{7, []int{2, 0}}, hold{8, nil})
}

// TestHoldersApart: P18.2; programs hold the same maps side by side, each in its own order.
func TestHoldersApart(t *testing.T) {
	var hs []hold
	r := made(t, 4)
	for i, p := range somePrograms() {
		maps := [][]int{{0, 1, 2, 3}, {3, 2, 1, 0}, {1}, {}, {2, 0}, {3, 1, 2}}[i%6]
		holds(t, r, api.OK, p, maps...)
		hs = append(hs, hold{p, maps})
		want(t, "one more", r, 4, hs...)
	}
}

// TestDrop: P18.3; none, each by itself, several at once in any order, all.
func TestDrop(t *testing.T) {
	a, b, c, d := hold{1, []int{0, 1}}, hold{-2, nil}, hold{math.MaxInt, []int{2}}, hold{math.MinInt, []int{2, 1, 0}}
	r := with(t, 3, a, b, c, d)
	drops(t, r, api.OK)
	drops(t, r, api.OK, []int{}...)
	want(t, "none dropped", r, 3, a, b, c, d)
	drops(t, r, api.OK, math.MaxInt)
	want(t, "one dropped", r, 3, a, b, d)
	drops(t, r, api.OK, -2)
	want(t, "one that held nothing dropped", r, 3, a, d)
	drops(t, r, api.OK)
	drops(t, r, api.OK, math.MinInt, 1)
	want(t, "all dropped", r, 3)
	drops(t, r, api.OK)
	for _, p := range []int{1, -2, math.MaxInt, math.MinInt} {
		drops(t, r, api.ErrNone, p)
	}
	want(t, "nobody holds", r, 3)
}

// TestDropOfNone: P18.3; one that never held, that was dropped, or whose Hold was refused: ErrNone.
func TestDropOfNone(t *testing.T) {
	for maps := 0; maps <= 4; maps++ {
		r := made(t, maps)
		for _, p := range somePrograms() {
			drops(t, r, api.ErrNone, p)
			holds(t, r, api.ErrArg, p, maps)
			drops(t, r, api.ErrNone, p)
			holds(t, r, api.OK, p, numbers(maps)...)
			drops(t, r, api.OK, p)
			drops(t, r, api.ErrNone, p)
		}
		want(t, "behind", r, maps)
	}
}

// TestDropEveryList: P18.3; all short lists of programs of which some hold maps, one holds nothing and some don't hold: a repeat is ErrArg wherever the faults stand, else one that doesn't hold ErrNone, and else just those go.
func TestDropEveryList(t *testing.T) {
	hs := []hold{{3, []int{1, 0}}, {-4, nil}, {math.MaxInt, []int{1}}}
	for _, of := range [][]int{{3, -4, math.MaxInt, 5}, {3, -4, 6, math.MinInt}} {
		everyList(5, of, func(ns []int) {
			r := with(t, 2, hs...)
			e, behind := api.OK, hs
			switch {
			case repeated(ns):
				e = api.ErrArg
			case slices.ContainsFunc(ns, func(n int) bool { return n == 5 || n == 6 || n == math.MinInt }):
				e = api.ErrNone
			default:
				behind = slices.DeleteFunc(slices.Clone(hs), func(h hold) bool { return slices.Contains(ns, h.prog) })
			}
			drops(t, r, e, ns...)
			want(t, "behind Drop", r, 2, behind...)
		})
	}
}

// TestDropWrittenOut: P18.3; several of which one is wrong and stands first, in the middle or last, and both faults together; nobody goes.
func TestDropWrittenOut(t *testing.T) {
	hs := []hold{{1, []int{0}}, {2, []int{1, 0}}, {3, nil}, {-4, []int{1}}}
	for _, c := range []struct {
		progs []int
		want  api.Errno
	}{
		{[]int{9}, api.ErrNone}, {[]int{9, 1, 2}, api.ErrNone}, {[]int{1, 9, 2}, api.ErrNone}, {[]int{1, 2, 9}, api.ErrNone},
		{[]int{9, 8}, api.ErrNone}, {[]int{4, 1}, api.ErrNone}, {[]int{0}, api.ErrNone}, {[]int{1, 2, 3, -4, 4}, api.ErrNone},
		{[]int{math.MaxInt, 1}, api.ErrNone}, {[]int{1, math.MinInt}, api.ErrNone},
		{[]int{1, 1}, api.ErrArg}, {[]int{3, 3}, api.ErrArg}, {[]int{-4, -4}, api.ErrArg},
		{[]int{1, 1, 2}, api.ErrArg}, {[]int{2, 1, 1}, api.ErrArg}, {[]int{1, 2, 1}, api.ErrArg},
		{[]int{3, 1, 2, 3, -4}, api.ErrArg}, {[]int{2, 3, -4, 1, 2}, api.ErrArg}, {[]int{-4, 2, 1, 3, 1}, api.ErrArg},
		{[]int{9, 9}, api.ErrArg}, {[]int{9, 1, 9}, api.ErrArg},
		{[]int{9, 1, 1}, api.ErrArg}, {[]int{1, 9, 1}, api.ErrArg}, {[]int{1, 1, 9}, api.ErrArg},
		{[]int{1, 2, 9, 8, 2}, api.ErrArg}, {[]int{math.MinInt, 0, math.MinInt}, api.ErrArg}, {[]int{math.MaxInt, math.MaxInt}, api.ErrArg},
	} {
		r := with(t, 2, hs...)
		drops(t, r, c.want, c.progs...)
		want(t, "refused", r, 2, hs...)
	}
}

// TestDropUnlike: P18.3; programs that are one another but for high bits or their sign aren't one.
func TestDropUnlike(t *testing.T) {
	all := somePrograms()
	for _, p := range all {
		r := made(t, 1)
		var left []hold
		for _, q := range all {
			holds(t, r, api.OK, q, 0)
			if q != p {
				left = append(left, hold{q, []int{0}})
			}
		}
		drops(t, r, api.OK, p)
		want(t, "one dropped", r, 1, left...)
		drops(t, r, api.ErrNone, p)
	}
	r := made(t, 1)
	for _, q := range all {
		holds(t, r, api.OK, q, 0)
	}
	drops(t, r, api.OK, all...)
	want(t, "all dropped", r, 1)
}

// TestHoldAgain: P18.3; a number that was dropped may hold again, other maps, the same or none, over and over.
func TestHoldAgain(t *testing.T) {
	for maps := 0; maps <= 4; maps++ {
		r := made(t, maps)
		everyChoice(maps, func(ns []int) {
			for _, p := range []int{6, math.MinInt} {
				holds(t, r, api.OK, p, ns...)
				holds(t, r, api.ErrBusy, p, ns...)
				want(t, "holds", r, maps, hold{p, ns})
				drops(t, r, api.OK, p)
				want(t, "dropped", r, maps)
			}
		})
	}
	r := with(t, 3, hold{1, []int{2, 0}}, hold{2, []int{0}})
	drops(t, r, api.OK, 1)
	holds(t, r, api.OK, 1, 1)
	want(t, "others", r, 3, hold{1, []int{1}}, hold{2, []int{0}})
	drops(t, r, api.OK, 2, 1)
	holds(t, r, api.OK, 2)
	want(t, "none", r, 3, hold{2, nil})
	holds(t, r, api.ErrBusy, 2, 0)
	holds(t, r, api.OK, 1, 0, 1, 2)
	want(t, "more", r, 3, hold{2, nil}, hold{1, []int{0, 1, 2}})
}

// TestCount: P18.4; of a map with no holder, one, and several, and of what is no map.
func TestCount(t *testing.T) {
	r := with(t, 4, hold{5, []int{3, 1}}, hold{-6, []int{3}}, hold{0, []int{2, 3}}, hold{8, nil})
	for m, n := range []int{0, 1, 1, 3} {
		counts(t, r, m, n, api.OK)
	}
	for _, m := range []int{-1, 4, 5, math.MaxInt, math.MinInt} {
		counts(t, r, m, 0, api.ErrArg)
		holders(t, r, m)
	}
	counts(t, made(t, 0), 0, 0, api.ErrArg)
	counts(t, made(t, 1), 0, 0, api.OK)
	counts(t, made(t, 1), 1, 0, api.ErrArg)
}

// TestHolders: P18.4; rising, whether they came rising, falling or mixed, below 0 and above.
func TestHolders(t *testing.T) {
	rising := []int{math.MinInt, math.MinInt + 1, math.MinInt32, -300, -2, -1, 0, 1, 2, 9, 10, 11, 100, 256, math.MaxInt32, math.MaxInt - 1, math.MaxInt}
	falling := slices.Clone(rising)
	slices.Reverse(falling)
	mixed := []int{9, -1, math.MaxInt, 100, 0, math.MinInt, 10, 2, -300, math.MaxInt32, 1, math.MinInt + 1, 11, math.MinInt32, 256, -2, math.MaxInt - 1}
	for _, order := range [][]int{rising, falling, mixed} {
		r := made(t, 2)
		for i, p := range order {
			holds(t, r, api.OK, p, [][]int{{0}, {0, 1}, {1, 0}}[i%3]...)
		}
		holders(t, r, 0, rising...)
		counts(t, r, 0, len(rising), api.OK)
		holders(t, r, -1)
		holders(t, r, 2)
	}
	r := with(t, 3, hold{4, []int{2}}, hold{5, nil})
	holders(t, r, 0)
	holders(t, r, 1)
	holders(t, r, 2, 4)
}

// TestHoldersOfMany: P18.4, P18.3; far more programs than a host has: each map's holders rise, and are less by those that go.
func TestHoldersOfMany(t *testing.T) {
	const many = 3000
	r := made(t, 3)
	var even, odd []int
	for i := range many {
		p := (i*1777)%many - many/2
		holds(t, r, api.OK, p, [][]int{{0, 2}, {1, 2}}[p&1]...)
	}
	for p := -many / 2; p < many/2; p++ {
		if p&1 == 0 {
			even = append(even, p)
		} else {
			odd = append(odd, p)
		}
	}
	counts(t, r, 0, many/2, api.OK)
	counts(t, r, 1, many/2, api.OK)
	counts(t, r, 2, many, api.OK)
	holders(t, r, 0, even...)
	holders(t, r, 1, odd...)
	drops(t, r, api.ErrArg, append(slices.Clone(even), even[0])...)
	drops(t, r, api.ErrNone, append(slices.Clone(even), many)...)
	counts(t, r, 2, many, api.OK)
	drops(t, r, api.OK, even...)
	holders(t, r, 0)
	holders(t, r, 2, odd...)
	free(t, r, even...)
	drops(t, r, api.ErrNone, odd[0], even[0])
	counts(t, r, 2, many/2, api.OK)
}

// TestHeld: P18.4; in the order in which they were told; of one that holds nothing none and true, of one that doesn't hold, or was dropped, none and false.
func TestHeld(t *testing.T) {
	r := with(t, 4, hold{1, []int{3, 0, 2, 1}}, hold{2, []int{1, 3}}, hold{3, []int{3, 1}}, hold{4, nil})
	held(t, r, 1, 3, 0, 2, 1)
	held(t, r, 2, 1, 3)
	held(t, r, 3, 3, 1)
	held(t, r, 4)
	free(t, r, 0, 5, -1, math.MaxInt, math.MinInt)
	drops(t, r, api.OK, 4, 1)
	free(t, r, 1, 4)
	held(t, r, 2, 1, 3)
	held(t, r, 3, 3, 1)
}

// spoil writes over a list and its spare room.
func spoil(ns []int) {
	ns = ns[:cap(ns)]
	for i := range ns {
		ns[i] = -77 - i
	}
}

// TestHandedToHold: P18.5; the maps that Hold is handed stay as they were, with their spare room, where it does it and where it refuses, and may be written over behind it.
func TestHandedToHold(t *testing.T) {
	for _, c := range []struct {
		maps []int
		want api.Errno
	}{
		{[]int{3, 0, 2, 1}, api.OK}, {[]int{2, 1}, api.OK}, {[]int{0}, api.OK}, {[]int{}, api.OK},
		{[]int{3, 1, 3}, api.ErrArg}, {[]int{3, 9, 0}, api.ErrArg}, {[]int{2, 2, 1, 1, 0}, api.ErrArg},
	} {
		r := with(t, 4, hold{8, []int{3, 1}})
		room := append(slices.Clone(c.maps), 55, 3, 54, 0)
		before := slices.Clone(room)
		holds(t, r, c.want, 5, room[:len(c.maps)]...)
		if c.want == api.OK {
			holds(t, r, api.ErrBusy, 8, room[:len(c.maps)]...)
		}
		if !slices.Equal(room, before) {
			t.Errorf("Hold made %v of %v", room, before)
		}
		spoil(room)
		now := []hold{{8, []int{3, 1}}}
		if c.want == api.OK {
			now = append(now, hold{5, c.maps})
		}
		want(t, "written over", r, 4, now...)
	}
}

// TestHandedToDrop: P18.5; likewise the programs that Drop is handed.
func TestHandedToDrop(t *testing.T) {
	for _, c := range []struct {
		progs []int
		want  api.Errno
	}{
		{[]int{9, 2, 5}, api.OK}, {[]int{5}, api.OK}, {[]int{}, api.OK},
		{[]int{9, 2, 9}, api.ErrArg}, {[]int{9, 1, 5}, api.ErrNone}, {[]int{9, 9, 1, 0}, api.ErrArg},
	} {
		hs := []hold{{2, []int{1}}, {5, nil}, {9, []int{0, 3}}}
		r := with(t, 4, hs...)
		room := append(slices.Clone(c.progs), 55, 2, 54, 5)
		before := slices.Clone(room)
		drops(t, r, c.want, room[:len(c.progs)]...)
		if !slices.Equal(room, before) {
			t.Errorf("Drop made %v of %v", room, before)
		}
		spoil(room)
		if c.want == api.OK {
			hs = slices.DeleteFunc(hs, func(h hold) bool { return slices.Contains(c.progs, h.prog) })
		}
		want(t, "written over", r, 4, hs...)
	}
}

// TestOneListForTwo: P18.5; two programs, and two refs, that were handed one list hold each its own, however it is used next.
func TestOneListForTwo(t *testing.T) {
	list := []int{2, 0, 1}
	a, b := made(t, 3), made(t, 3)
	holds(t, a, api.OK, 1, list...)
	list[0], list[1] = 0, 2
	holds(t, a, api.OK, 2, list...)
	holds(t, b, api.OK, 1, list[:2]...)
	list = append(list[:0], 1, 1, 1)
	want(t, "the one", a, 3, hold{1, []int{2, 0, 1}}, hold{2, []int{0, 2, 1}})
	want(t, "the other", b, 3, hold{1, []int{0, 2}})
	if !slices.Equal(list, []int{1, 1, 1}) {
		t.Errorf("the list: %v", list)
	}
}

// TestAnswersAreNew: P18.5; what Holders and Held answer may be written over, its spare room too, and appended to, with nothing changed, and no two answers share memory.
func TestAnswersAreNew(t *testing.T) {
	hs := []hold{{1, []int{3, 0, 2, 1}}, {-2, []int{1}}, {7, []int{3, 1, 0}}, {4, nil}, {5, []int{2, 1}}}
	r := with(t, 4, hs...)
	for range 3 {
		for m := -1; m <= 4; m++ {
			first, second := r.Holders(m), r.Holders(m)
			kept := slices.Clone(second)
			_ = append(first, 66, 67)
			spoil(first)
			if !slices.Equal(second, kept) {
				t.Errorf("Holders(%d): two answers share memory", m)
			}
			want(t, "holders spoilt", r, 4, hs...)
		}
		for p := -3; p <= 8; p++ {
			first, _ := r.Held(p)
			second, _ := r.Held(p)
			kept := slices.Clone(second)
			_ = append(first, 0, 1, 2)
			spoil(first)
			if !slices.Equal(second, kept) {
				t.Errorf("Held(%d): two answers share memory", p)
			}
			want(t, "held spoilt", r, 4, hs...)
		}
	}
}

// TestAnswersStay: P18.5; what was answered stays as it was, whatever is done behind it.
func TestAnswersStay(t *testing.T) {
	r := with(t, 3, hold{1, []int{2, 0}}, hold{2, []int{0, 1}})
	of, _ := r.Held(1)
	by := r.Holders(0)
	drops(t, r, api.OK, 2, 1)
	holds(t, r, api.OK, 1, 1, 2)
	holds(t, r, api.OK, -3, 0, 1, 2)
	if !slices.Equal(of, []int{2, 0}) || !slices.Equal(by, []int{1, 2}) {
		t.Errorf("answers have become %v and %v", of, by)
	}
}

// TestRefusedChangesNothing: rule 3; behind each refused call all that can be read is as it was, and what it was refused for may be done rightly.
func TestRefusedChangesNothing(t *testing.T) {
	hs := []hold{{1, []int{2, 0}}, {2, nil}, {3, []int{1}}}
	r := with(t, 3, hs...)
	for range 3 {
		holds(t, r, api.ErrArg, 4, 0, 1, 3)
		want(t, "no map", r, 3, hs...)
		holds(t, r, api.ErrArg, 4, 0, 1, 0)
		want(t, "a map twice", r, 3, hs...)
		holds(t, r, api.ErrBusy, 1, 1)
		want(t, "holds maps", r, 3, hs...)
		holds(t, r, api.ErrBusy, 2, 1)
		want(t, "holds nothing", r, 3, hs...)
		drops(t, r, api.ErrArg, 1, 2, 3, 1)
		want(t, "a program twice", r, 3, hs...)
		drops(t, r, api.ErrNone, 1, 2, 3, 4)
		want(t, "one doesn't hold", r, 3, hs...)
	}
	holds(t, r, api.OK, 4, 0, 1)
	drops(t, r, api.OK, 1, 2, 3)
	want(t, "done rightly", r, 3, hold{4, []int{0, 1}})
}

// TestApart: rule 7; what is done to one refs isn't seen in another.
func TestApart(t *testing.T) {
	a, b := made(t, 2), made(t, 4)
	holds(t, a, api.OK, 1, 1, 0)
	want(t, "the other", b, 4)
	holds(t, b, api.OK, 1, 3)
	want(t, "the one", a, 2, hold{1, []int{1, 0}})
	holds(t, a, api.ErrArg, 2, 3)
	holds(t, b, api.OK, 2, 3, 2)
	drops(t, a, api.ErrNone, 2)
	drops(t, a, api.OK, 1)
	want(t, "the other", b, 4, hold{1, []int{3}}, hold{2, []int{3, 2}})
	drops(t, b, api.OK, 2)
	want(t, "the one", a, 2)
}
