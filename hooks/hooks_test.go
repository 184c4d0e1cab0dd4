package hooks_test

import (
	"math"
	"slices"
	"testing"

	"tappet/api"
	"tappet/hooks"
)

// made is a new table.
func made(t *testing.T, many int) *hooks.Table {
	t.Helper()
	h, e := hooks.New(many)
	if h == nil || e != api.OK {
		t.Fatalf("New(%d): %v, %v", many, h, e)
	}
	return h
}

// post is what is at a hook: a version and a program, or (version 0) nothing.
type post struct {
	version, prog int
}

// with is a new table with a hook for each of these posts. They are published as their versions say, and last is the version that was given last.
func with(t *testing.T, last int, posts ...post) *hooks.Table {
	t.Helper()
	h := made(t, len(posts))
	for v := 1; v <= last; v++ {
		hook := slices.IndexFunc(posts, func(p post) bool { return p.version == v })
		if hook >= 0 {
			attaches(t, h, hook, posts[hook].prog, v, api.OK)
		} else {
			fresh(t, h, v)
		}
	}
	return h
}

// attaches fails if Attach isn't answered so.
func attaches(t *testing.T, h *hooks.Table, hook, prog, version int, w api.Errno) {
	t.Helper()
	if v, e := h.Attach(hook, prog); v != version || e != w {
		t.Errorf("Attach(%d, %d): %d, %v, want %d, %v", hook, prog, v, e, version, w)
	}
}

// swaps fails if Swap isn't answered so.
func swaps(t *testing.T, h *hooks.Table, hook, prog, version int, w api.Errno) {
	t.Helper()
	if v, e := h.Swap(hook, prog); v != version || e != w {
		t.Errorf("Swap(%d, %d): %d, %v, want %d, %v", hook, prog, v, e, version, w)
	}
}

// detaches fails if Detach isn't answered so.
func detaches(t *testing.T, h *hooks.Table, w api.Errno, list ...int) {
	t.Helper()
	if e := h.Detach(list...); e != w {
		t.Errorf("Detach(%v): %v, want %v", list, e, w)
	}
}

// fresh fails if Fresh isn't answered so.
func fresh(t *testing.T, h *hooks.Table, version int) {
	t.Helper()
	if v := h.Fresh(); v != version {
		t.Errorf("Fresh: %d, want %d", v, version)
	}
}

// last fails if Last isn't answered so, by the promoted method or through the embedded versions.
func last(t *testing.T, h *hooks.Table, version int) {
	t.Helper()
	if v, inner := h.Last(), h.Versions.Last(); v != version || inner != version {
		t.Errorf("Last: %d, through the versions %d, want %d", v, inner, version)
	}
}

// current fails if this program isn't at a hook, by this version.
func current(t *testing.T, h *hooks.Table, hook, version, prog int) {
	t.Helper()
	if v, p, ok := h.Current(hook); v != version || p != prog || !ok {
		t.Errorf("Current(%d): %d, %d, %t, want %d, %d", hook, v, p, ok, version, prog)
	}
}

// empty fails if at one of these a program is.
func empty(t *testing.T, h *hooks.Table, list ...int) {
	t.Helper()
	for _, hook := range list {
		if v, p, ok := h.Current(hook); v != 0 || p != 0 || ok {
			t.Errorf("Current(%d): %d, %d, %t, want none", hook, v, p, ok)
		}
	}
}

// where fails if these programs aren't at just these hooks.
func where(t *testing.T, h *hooks.Table, progs []int, list ...int) {
	t.Helper()
	if got := h.Where(progs...); !slices.Equal(got, list) {
		t.Errorf("Where(%v): %v, want %v", progs, got, list)
	}
}

// noHooks are numbers of no hook where there are so many: those beside them, far ones, and such that are a hook's modulo 2^8, 2^16 or 2^32, or but for their sign.
func noHooks(many int) []int {
	out := []int{math.MinInt, math.MinInt + 1, math.MinInt32, -1 << 32, -1<<32 + 1, -65536, -256, -255, -4, -3, -2, -1,
		256, 257, 65536, 65537, math.MaxInt32, 1 << 32, 1<<32 + 1, math.MaxInt - 1, math.MaxInt}
	for hook := many; hook <= 20; hook++ {
		out = append(out, hook)
	}
	return out
}

// somePrograms are numbers of programs, mixed: about 0, at the ends, and such that are one another modulo 2^8, 2^16 or 2^32, or but for their sign.
func somePrograms() []int {
	return []int{7, 0, -5, math.MaxInt, 263, -1, 1, math.MinInt, 1<<32 + 7, 5, 65543, -7, math.MaxInt32, 4, 2, -256, 3, math.MaxInt - 1, math.MinInt32, 1 << 32, math.MinInt + 1}
}

// want fails if what can be read of a table isn't these posts, and this last version.
func want(t *testing.T, when string, h *hooks.Table, version int, posts ...post) {
	t.Helper()
	if v, inner := h.Last(), h.Versions.Last(); v != version || inner != version {
		t.Errorf("%s: Last %d, through the versions %d, want %d", when, v, inner, version)
	}
	for hook, p := range posts {
		prog := p.prog
		if p.version == 0 {
			prog = 0
		}
		if v, q, ok := h.Current(hook); v != p.version || q != prog || ok != (p.version > 0) {
			t.Errorf("%s: Current(%d): %d, %d, %t, want %v", when, hook, v, q, ok, p)
		}
	}
	for _, hook := range noHooks(len(posts)) {
		if v, p, ok := h.Current(hook); v != 0 || p != 0 || ok {
			t.Errorf("%s: Current(%d): %d, %d, %t", when, hook, v, p, ok)
		}
	}
	asked := somePrograms()
	for _, p := range posts {
		asked = append(asked, p.prog)
	}
	for _, prog := range asked {
		if got := h.Where(prog); !slices.Equal(got, placesOf(posts, prog)) {
			t.Errorf("%s: Where(%d): %v, want %v", when, prog, got, placesOf(posts, prog))
		}
	}
	if got := h.Where(asked...); !slices.Equal(got, placesOf(posts, asked...)) {
		t.Errorf("%s: Where(%v): %v, want %v", when, asked, got, placesOf(posts, asked...))
	}
}

// placesOf are the hooks at which one of these programs is, rising.
func placesOf(posts []post, progs ...int) []int {
	var out []int
	for hook, p := range posts {
		if p.version > 0 && slices.Contains(progs, p.prog) {
			out = append(out, hook)
		}
	}
	return out
}

// everyState calls f with all ways in which so many hooks can be empty or have one of these programs, published one hook after the other, and how many were.
func everyState(many int, progs []int, f func(version int, posts []post)) {
	posts := make([]post, many)
	var fill func(hook, version int)
	fill = func(hook, version int) {
		if hook == many {
			f(version, slices.Clone(posts))
			return
		}
		posts[hook] = post{}
		fill(hook+1, version)
		for _, prog := range progs {
			posts[hook] = post{version + 1, prog}
			fill(hook+1, version+1)
		}
	}
	fill(0, 0)
}

// everyList calls f with all lists of up to so many of these numbers, repeats too.
func everyList(most int, of []int, f func(list []int)) {
	var list []int
	var longer func()
	longer = func() {
		f(list)
		if len(list) == most {
			return
		}
		for _, n := range of {
			list = append(list, n)
			longer()
			list = list[:len(list)-1]
		}
	}
	longer()
}

// repeats tells whether a number stands in a list twice.
func repeats(list []int) bool {
	for i, n := range list {
		if slices.Contains(list[:i], n) {
			return true
		}
	}
	return false
}

// numbers are the numbers from low to high.
func numbers(low, high int) []int {
	var out []int
	for n := low; n <= high; n++ {
		out = append(out, n)
	}
	return out
}

// emptied are posts with these emptied.
func emptied(posts []post, list ...int) []post {
	out := slices.Clone(posts)
	for _, hook := range list {
		out[hook] = post{}
	}
	return out
}

// put is posts with one of them another.
func put(posts []post, hook, version, prog int) []post {
	out := slices.Clone(posts)
	out[hook] = post{version, prog}
	return out
}

// spoil writes over a list and its spare room.
func spoil(list []int) {
	list = list[:cap(list)]
	for i := range list {
		list[i] = -77 - i
	}
}

// TestExamples: the chapter's table.
func TestExamples(t *testing.T) {
	h := made(t, 3)
	attaches(t, h, 1, 70, 1, api.OK)
	attaches(t, h, 1, 71, 0, api.ErrBusy)
	swaps(t, h, 0, 7, 0, api.ErrNone)
	attaches(t, h, 3, 7, 0, api.ErrArg)
	swaps(t, h, 1, 71, 2, api.OK)
	attaches(t, h, 0, 71, 3, api.OK)
	current(t, h, 1, 2, 71)
	last(t, h, 3)
	where(t, h, []int{71}, 0, 1)
	where(t, h, []int{70, 5})
	where(t, h, nil)
	detaches(t, h, api.ErrArg, 0, 0)
	detaches(t, h, api.ErrNone, 0, 2)
	detaches(t, h, api.OK, 0, 1)
	empty(t, h, 1)
	fresh(t, h, 4)
	attaches(t, h, 0, 7, 5, api.OK)
}

// TestNew: P19.1; just 1 to 4 hooks, all empty, last version 0; else nil and ErrArg.
func TestNew(t *testing.T) {
	for _, n := range append(noHooks(0), numbers(-300, 300)...) {
		h, e := hooks.New(n)
		if n >= 1 && n <= 4 {
			if h == nil || e != api.OK {
				t.Fatalf("New(%d): %v, %v", n, h, e)
			}
			want(t, "a new one", h, 0, make([]post, n)...)
			for hook := range n {
				swaps(t, h, hook, 0, 0, api.ErrNone)
				detaches(t, h, api.ErrNone, hook)
				attaches(t, h, hook, 0, hook+1, api.OK)
			}
		} else if h != nil || e != api.ErrArg {
			t.Errorf("New(%d): %v, %v", n, h, e)
		}
	}
}

// TestNewIsNew: P19.1; a new table is empty and at version 0, whatever was done to those made ahead of it, and two News answer two tables.
func TestNewIsNew(t *testing.T) {
	for many := 1; many <= 4; many++ {
		posts := []post{{1, 9}, {2, 9}, {3, 0}, {5, -1}}[:many]
		a := with(t, 6, posts...)
		b := made(t, many)
		if a == b {
			t.Fatal("New answers one table twice")
		}
		want(t, "a new one", b, 0, make([]post, many)...)
		want(t, "an old one", a, 6, posts...)
	}
}

// TestVersions: P19.1; by themselves, from the zero value on: one more each time, also beyond what two bytes hold, with Last in turns.
func TestVersions(t *testing.T) {
	var v hooks.Versions
	for n := 1; n <= 70000; n++ {
		if got := v.Last(); got != n-1 {
			t.Fatalf("Last: %d, want %d", got, n-1)
		}
		if got := v.Last(); got != n-1 {
			t.Fatalf("Last again: %d, want %d", got, n-1)
		}
		if got := v.Fresh(); got != n {
			t.Fatalf("Fresh: %d, want %d", got, n)
		}
	}
	for n := 70001; n <= 70100; n++ {
		if got := v.Fresh(); got != n {
			t.Fatalf("Fresh behind Fresh: %d, want %d", got, n)
		}
	}
	if got := v.Last(); got != 70100 {
		t.Errorf("Last: %d", got)
	}
}

// TestVersionsApart: P19.1, rule 7; two versions, and those of two tables, each go on by themselves.
func TestVersionsApart(t *testing.T) {
	a, b := &hooks.Versions{}, &hooks.Versions{}
	h, g := made(t, 1), made(t, 1)
	for n := 1; n <= 10; n++ {
		if first, second := a.Fresh(), a.Fresh(); first != 2*n-1 || second != 2*n {
			t.Errorf("two Fresh: %d, %d, want %d, %d", first, second, 2*n-1, 2*n)
		}
		if got := b.Fresh(); got != n {
			t.Errorf("Fresh of another: %d, want %d", got, n)
		}
		fresh(t, h, n)
		if a.Last() != 2*n || b.Last() != n {
			t.Errorf("Last: %d and %d, want %d and %d", a.Last(), b.Last(), 2*n, n)
		}
		last(t, h, n)
		last(t, g, 0)
	}
}

// TestVersionsOfATable: P19.1; Fresh and Last are one and the same by the promoted methods, through the embedded versions and by their address, at first, behind one another and between the other calls.
func TestVersionsOfATable(t *testing.T) {
	h := made(t, 2)
	inner := &h.Versions
	last(t, h, 0)
	fresh(t, h, 1)
	last(t, h, 1)
	if v := h.Versions.Fresh(); v != 2 {
		t.Errorf("Fresh through the versions: %d", v)
	}
	last(t, h, 2)
	if v := inner.Fresh(); v != 3 || inner.Last() != 3 {
		t.Errorf("Fresh by the address: %d", v)
	}
	last(t, h, 3)
	attaches(t, h, 1, 8, 4, api.OK)
	if v := inner.Last(); v != 4 {
		t.Errorf("Last by the address: %d", v)
	}
	fresh(t, h, 5)
	swaps(t, h, 1, 8, 6, api.OK)
	if v := h.Versions.Fresh(); v != 7 {
		t.Errorf("Fresh through the versions: %d", v)
	}
	detaches(t, h, api.OK, 1)
	last(t, h, 7)
	fresh(t, h, 8)
	attaches(t, h, 1, 8, 9, api.OK)
	want(t, "behind all", h, 9, post{}, post{9, 8})
}

// TestFreshChangesNoHook: P19.1; a version that is given by Fresh is at no hook, and the programs stay where they are, by their versions.
func TestFreshChangesNoHook(t *testing.T) {
	for many := 1; many <= 4; many++ {
		everyState(many, []int{0, 6}, func(version int, posts []post) {
			h := with(t, version, posts...)
			for n := 1; n <= 3; n++ {
				fresh(t, h, version+n)
				want(t, "behind Fresh", h, version+n, posts...)
			}
		})
	}
}

// TestAttach: P19.2; at each hook, from every state: the next version where the hook is empty, though the program be at other hooks; ErrBusy where a program is, the same one or another.
func TestAttach(t *testing.T) {
	for many := 1; many <= 4; many++ {
		everyState(many, []int{0, 6, -1}, func(version int, posts []post) {
			for hook := range many {
				for _, prog := range []int{0, 6, 9} {
					h := with(t, version, posts...)
					if posts[hook].version > 0 {
						attaches(t, h, hook, prog, 0, api.ErrBusy)
						want(t, "busy", h, version, posts...)
						continue
					}
					attaches(t, h, hook, prog, version+1, api.OK)
					want(t, "attached", h, version+1, put(posts, hook, version+1, prog)...)
				}
			}
		})
	}
}

// TestSwap: P19.2; at each hook, from every state: the next version where a program is, the same one or another, though it be at other hooks; ErrNone where the hook is empty.
func TestSwap(t *testing.T) {
	for many := 1; many <= 4; many++ {
		everyState(many, []int{0, 6, -1}, func(version int, posts []post) {
			for hook := range many {
				for _, prog := range []int{0, 6, 9} {
					h := with(t, version, posts...)
					if posts[hook].version == 0 {
						swaps(t, h, hook, prog, 0, api.ErrNone)
						want(t, "none", h, version, posts...)
						continue
					}
					swaps(t, h, hook, prog, version+1, api.OK)
					want(t, "swapped", h, version+1, put(posts, hook, version+1, prog)...)
				}
			}
		})
	}
}

// TestAnyProgram: P19.2; a program's number is any, at each hook, attached, swapped in and swapped out.
func TestAnyProgram(t *testing.T) {
	for many := 1; many <= 4; many++ {
		for hook := range many {
			for _, prog := range somePrograms() {
				h := made(t, many)
				at := func(version, prog int) []post { return put(make([]post, many), hook, version, prog) }
				attaches(t, h, hook, prog, 1, api.OK)
				want(t, "attached", h, 1, at(1, prog)...)
				attaches(t, h, hook, prog, 0, api.ErrBusy)
				attaches(t, h, hook, 50, 0, api.ErrBusy)
				swaps(t, h, hook, prog, 2, api.OK)
				want(t, "swapped to itself", h, 2, at(2, prog)...)
				swaps(t, h, hook, 50, 3, api.OK)
				want(t, "swapped out", h, 3, at(3, 50)...)
				swaps(t, h, hook, prog, 4, api.OK)
				want(t, "swapped in", h, 4, at(4, prog)...)
				detaches(t, h, api.OK, hook)
				want(t, "detached", h, 4, make([]post, many)...)
				swaps(t, h, hook, prog, 0, api.ErrNone)
				want(t, "none there", h, 4, make([]post, many)...)
			}
		}
	}
}

// TestNoSuchHook: P19.2; Attach and Swap at a number of no hook are ErrArg, whatever stands at the hooks, and change nothing.
func TestNoSuchHook(t *testing.T) {
	for many := 1; many <= 4; many++ {
		everyState(many, []int{6}, func(version int, posts []post) {
			h := with(t, version+1, posts...)
			for _, hook := range noHooks(many) {
				for _, prog := range []int{6, 0, -1, math.MaxInt, math.MinInt} {
					attaches(t, h, hook, prog, 0, api.ErrArg)
					swaps(t, h, hook, prog, 0, api.ErrArg)
				}
			}
			want(t, "refused", h, version+1, posts...)
		})
	}
}

// TestSwapToItself: P19.2; a swap to the program that is there is a new version each time, and the others' stay.
func TestSwapToItself(t *testing.T) {
	h := with(t, 3, post{1, 4}, post{2, 4}, post{3, 5})
	for v := 4; v <= 40; v++ {
		swaps(t, h, 1, 4, v, api.OK)
		want(t, "once more", h, v, post{1, 4}, post{v, 4}, post{3, 5})
	}
}

// TestAttachAgain: P19.2, P19.3; a hook that was detached takes a program again, the same one or another, by a fresh version, over and over.
func TestAttachAgain(t *testing.T) {
	for many := 1; many <= 4; many++ {
		h, version := made(t, many), 0
		for round := range 10 {
			for hook := range many {
				for _, prog := range []int{3, 3, round, 0} {
					version++
					attaches(t, h, hook, prog, version, api.OK)
					attaches(t, h, hook, prog, 0, api.ErrBusy)
					want(t, "attached", h, version, put(make([]post, many), hook, version, prog)...)
					detaches(t, h, api.OK, hook)
					want(t, "detached", h, version, make([]post, many)...)
				}
			}
		}
	}
}

// TestVersionsRise: P19.2, P7; versions rise by one over all hooks and Fresh together, whatever is refused between.
func TestVersionsRise(t *testing.T) {
	for many := 1; many <= 4; many++ {
		h, version := made(t, many), 0
		for i := range 3000 {
			hook := i * 7 % many
			attaches(t, h, many, 1, 0, api.ErrArg)
			version++
			if _, _, there := h.Current(hook); there {
				attaches(t, h, hook, i, 0, api.ErrBusy)
				swaps(t, h, hook, i, version, api.OK)
			} else {
				swaps(t, h, hook, i, 0, api.ErrNone)
				attaches(t, h, hook, i, version, api.OK)
			}
			current(t, h, hook, version, i)
			if i%3 == 0 {
				version++
				fresh(t, h, version)
			}
			if i%5 == 0 {
				detaches(t, h, api.OK, hook)
			}
			last(t, h, version)
		}
	}
}

// TestDetach: P19.3; none, each by itself, several at once in any order, all; no version is given.
func TestDetach(t *testing.T) {
	posts := []post{{4, 1}, {1, 0}, {2, 1}, {6, -9}}
	h := with(t, 7, posts...)
	detaches(t, h, api.OK)
	detaches(t, h, api.OK, []int{}...)
	want(t, "none emptied", h, 7, posts...)
	detaches(t, h, api.OK, 2)
	want(t, "2 emptied", h, 7, emptied(posts, 2)...)
	detaches(t, h, api.OK, 3, 0)
	want(t, "3 and 0 emptied", h, 7, emptied(posts, 0, 2, 3)...)
	detaches(t, h, api.OK)
	detaches(t, h, api.OK, 1)
	want(t, "all emptied", h, 7, make([]post, 4)...)
	detaches(t, h, api.OK)
	for hook := range 4 {
		detaches(t, h, api.ErrNone, hook)
	}
	want(t, "all empty", h, 7, make([]post, 4)...)
	attaches(t, h, 3, 1, 8, api.OK)
}

// TestDetachAll: P19.3; all hooks at once, in each order.
func TestDetachAll(t *testing.T) {
	for many := 1; many <= 4; many++ {
		posts := []post{{2, 0}, {1, 7}, {3, 7}, {5, math.MinInt}}[:many]
		everyList(many, numbers(0, many-1), func(list []int) {
			if len(list) < many || repeats(list) {
				return
			}
			h := with(t, 5, posts...)
			detaches(t, h, api.OK, list...)
			want(t, "all emptied", h, 5, make([]post, many)...)
			detaches(t, h, api.ErrNone, list...)
		})
	}
}

// TestDetachOfAnyList: P19.3; every list up to one longer than there are hooks, of the hooks and of those beside them, from every set of hooks with a program: ErrArg ahead of ErrNone wherever the faults stand, and then nothing changes; else just those are emptied.
func TestDetachOfAnyList(t *testing.T) {
	for many := 1; many <= 4; many++ {
		everyList(many+1, numbers(-1, many), func(list []int) {
			wrong := repeats(list) || slices.Contains(list, -1) || slices.Contains(list, many)
			everyState(many, []int{0}, func(version int, posts []post) {
				h := with(t, version, posts...)
				e, w, behind := h.Detach(list...), api.OK, posts
				switch {
				case wrong:
					w = api.ErrArg
				case slices.ContainsFunc(list, func(hook int) bool { return posts[hook].version == 0 }):
					w = api.ErrNone
				default:
					behind = emptied(posts, list...)
				}
				if e != w {
					t.Fatalf("%v: Detach(%v): %v, want %v", posts, list, e, w)
				}
				for hook, p := range behind {
					if v, _, ok := h.Current(hook); v != p.version || ok != (p.version > 0) {
						t.Fatalf("%v: behind Detach(%v), %v: Current(%d): %d, %t", posts, list, e, hook, v, ok)
					}
				}
				if got := h.Where(0); h.Last() != version || !slices.Equal(got, placesOf(behind, 0)) {
					t.Fatalf("%v: behind Detach(%v), %v: Last %d, Where(0) %v", posts, list, e, h.Last(), got)
				}
			})
		})
	}
}

// TestDetachFaults: P19.3; each fault by itself, in each place among hooks that have a program, and faults together.
func TestDetachFaults(t *testing.T) {
	posts := []post{{3, 7}, {1, 0}, {2, 7}, {}}
	for _, one := range []struct {
		list []int
		e    api.Errno
	}{
		{[]int{4}, api.ErrArg}, {[]int{-1}, api.ErrArg}, {[]int{math.MaxInt}, api.ErrArg}, {[]int{math.MinInt}, api.ErrArg},
		{[]int{-1, 0, 1}, api.ErrArg}, {[]int{0, -1, 1}, api.ErrArg}, {[]int{0, 1, -1}, api.ErrArg},
		{[]int{4, 0, 1}, api.ErrArg}, {[]int{0, 4, 1}, api.ErrArg}, {[]int{0, 1, 4}, api.ErrArg},
		{[]int{math.MaxInt, 2, 1}, api.ErrArg}, {[]int{2, math.MaxInt, 1}, api.ErrArg}, {[]int{2, 1, math.MaxInt}, api.ErrArg},
		{[]int{math.MinInt, 2, 1}, api.ErrArg}, {[]int{2, math.MinInt, 1}, api.ErrArg}, {[]int{2, 1, math.MinInt}, api.ErrArg},
		{[]int{0, 0}, api.ErrArg}, {[]int{0, 0, 1}, api.ErrArg}, {[]int{0, 1, 0}, api.ErrArg}, {[]int{1, 0, 0}, api.ErrArg},
		{[]int{0, 1, 2, 0}, api.ErrArg}, {[]int{2, 0, 1, 2}, api.ErrArg}, {[]int{1, 1, 1}, api.ErrArg},
		{[]int{3}, api.ErrNone}, {[]int{3, 0, 1}, api.ErrNone}, {[]int{0, 3, 1}, api.ErrNone}, {[]int{0, 1, 3}, api.ErrNone},
		{[]int{0, 1, 2, 3}, api.ErrNone}, {[]int{3, 2, 1, 0}, api.ErrNone},
		{[]int{0, 1, 2, 3, 0}, api.ErrArg}, {[]int{0, 1, 2, 3, 3}, api.ErrArg}, {[]int{0, 1, 2, 3, 4}, api.ErrArg}, {[]int{-1, 0, 1, 2, 3}, api.ErrArg},
		{[]int{3, 4}, api.ErrArg}, {[]int{4, 3}, api.ErrArg}, {[]int{3, 0, 1, -1}, api.ErrArg}, {[]int{3, math.MinInt}, api.ErrArg},
		{[]int{3, 3}, api.ErrArg}, {[]int{3, 0, 3}, api.ErrArg}, {[]int{3, 0, 0}, api.ErrArg}, {[]int{0, 3, 0}, api.ErrArg}, {[]int{0, 0, 3}, api.ErrArg},
		{[]int{4, 4}, api.ErrArg}, {[]int{-1, -1}, api.ErrArg}, {[]int{4, 0, 0}, api.ErrArg}, {[]int{0, 0, 4}, api.ErrArg},
		{[]int{3, 1, 1, math.MaxInt}, api.ErrArg}, {[]int{-1, 0, 0, 3}, api.ErrArg},
	} {
		h := with(t, 4, posts...)
		detaches(t, h, one.e, one.list...)
		want(t, "refused", h, 4, posts...)
		attaches(t, h, 3, 7, 5, api.OK)
		detaches(t, h, api.OK, 0, 1, 2, 3)
	}
}

// TestDetachOfNoHooks: P19.3; a number of no hook, far or near, in each place among all hooks, whether they have a program or not.
func TestDetachOfNoHooks(t *testing.T) {
	for many := 1; many <= 4; many++ {
		all, posts := numbers(0, many-1), []post{{1, 3}, {4, 3}, {2, 0}, {3, -3}}[:many]
		for _, wrong := range noHooks(many) {
			for place := range many + 1 {
				list := slices.Insert(slices.Clone(all), place, wrong)
				h, bare := with(t, 4, posts...), made(t, many)
				detaches(t, h, api.ErrArg, list...)
				detaches(t, bare, api.ErrArg, list...)
				want(t, "refused", h, 4, posts...)
				want(t, "refused, all empty", bare, 0, make([]post, many)...)
				detaches(t, h, api.OK, all...)
			}
		}
	}
}

// TestDetachLong: P19.3, P1; lists far longer than there are hooks are ErrArg.
func TestDetachLong(t *testing.T) {
	for many := 1; many <= 4; many++ {
		posts := []post{{1, 3}, {2, 3}, {3, 3}, {4, 3}}[:many]
		h := with(t, 4, posts...)
		for _, long := range []int{5, 6, 8, 16, 255, 256, 257, 65536, 1000000} {
			list := make([]int, long)
			detaches(t, h, api.ErrArg, list...)
			for i := range list {
				list[i] = i % many
			}
			detaches(t, h, api.ErrArg, list...)
			for i := range list {
				list[i] = i
			}
			detaches(t, h, api.ErrArg, list...)
		}
		want(t, "refused", h, 4, posts...)
	}
}

// TestCurrent: P19.4; of a hook with a program, with none, behind Swap, behind Detach, and of what is no hook.
func TestCurrent(t *testing.T) {
	h := with(t, 5, post{4, 0}, post{}, post{2, -8})
	current(t, h, 0, 4, 0)
	empty(t, h, 1)
	current(t, h, 2, 2, -8)
	empty(t, h, -1, 3, math.MaxInt, math.MinInt)
	empty(t, h, noHooks(3)...)
	swaps(t, h, 2, math.MaxInt, 6, api.OK)
	current(t, h, 2, 6, math.MaxInt)
	current(t, h, 0, 4, 0)
	detaches(t, h, api.OK, 0)
	empty(t, h, 0, 1, 3)
	current(t, h, 2, 6, math.MaxInt)
	attaches(t, h, 1, math.MinInt, 7, api.OK)
	current(t, h, 1, 7, math.MinInt)
	detaches(t, h, api.OK, 2)
	empty(t, h, 0, 2)
}

// TestWhere: P19.4; with no program, one, several, one twice; at no hook, at one, at several; rising, however they were told or published.
func TestWhere(t *testing.T) {
	h := with(t, 4, post{4, 5}, post{3, -2}, post{2, 5}, post{1, math.MinInt})
	where(t, h, nil)
	where(t, h, []int{})
	where(t, h, []int{9})
	where(t, h, []int{9, 8, 0})
	where(t, h, []int{-2}, 1)
	where(t, h, []int{5}, 0, 2)
	where(t, h, []int{5, 5}, 0, 2)
	where(t, h, []int{-2, 9, -2}, 1)
	where(t, h, []int{math.MinInt, 5}, 0, 2, 3)
	where(t, h, []int{5, math.MinInt}, 0, 2, 3)
	where(t, h, []int{math.MinInt, -2, 5}, 0, 1, 2, 3)
	where(t, h, []int{-2, 5, math.MinInt, 5, 7, -2}, 0, 1, 2, 3)
	where(t, h, []int{2, -5, 261, 1<<32 + 5, math.MaxInt, 1, 3, 4})
	swaps(t, h, 2, -2, 5, api.OK)
	where(t, h, []int{5}, 0)
	where(t, h, []int{-2}, 1, 2)
	detaches(t, h, api.OK, 1, 0)
	where(t, h, []int{5})
	where(t, h, []int{-2}, 2)
	where(t, h, []int{5, -2, math.MinInt}, 2, 3)
	same := with(t, 4, post{2, 3}, post{1, 3}, post{4, 3}, post{3, 3})
	where(t, same, []int{3}, 0, 1, 2, 3)
	where(t, same, []int{1, 2, 4})
}

// TestWhereOfNought: P19.4; program 0 is at no empty hook, neither at one that never had a program nor at one that was detached.
func TestWhereOfNought(t *testing.T) {
	for many := 1; many <= 4; many++ {
		h := made(t, many)
		where(t, h, []int{0})
		where(t, h, []int{0, 1, 0})
		for hook := range many {
			attaches(t, h, hook, 0, hook+1, api.OK)
			where(t, h, []int{0}, numbers(0, hook)...)
		}
		for hook := range many {
			detaches(t, h, api.OK, hook)
			where(t, h, []int{0}, numbers(hook+1, many-1)...)
		}
		attaches(t, h, many-1, 5, many+1, api.OK)
		where(t, h, []int{0})
		where(t, h, []int{0, 5}, many-1)
	}
}

// TestWhereOfAnyList: P19.4; every short list of programs, repeats too, from every state.
func TestWhereOfAnyList(t *testing.T) {
	for many := 1; many <= 4; many++ {
		everyState(many, []int{0, 6, -1}, func(version int, posts []post) {
			h := with(t, version, posts...)
			everyList(3, []int{-1, 0, 6, 9}, func(progs []int) {
				if got := h.Where(progs...); !slices.Equal(got, placesOf(posts, progs...)) {
					t.Fatalf("%v: Where(%v): %v", posts, progs, got)
				}
			})
		})
	}
}

// TestWhereOfMany: P19.4, P1; far more programs than there are.
func TestWhereOfMany(t *testing.T) {
	h := with(t, 4, post{1, 999999}, post{2, -1}, post{3, 0}, post{4, 500000})
	where(t, h, numbers(0, 999999), 0, 2, 3)
	where(t, h, numbers(1, 999998), 3)
	where(t, h, make([]int, 1000000), 2)
}

// TestRefusedGivesNoVersion: P19.5, rule 3; behind each refused call all that can be read is as it was, the last version too, and the next version is one more than the last that was given.
func TestRefusedGivesNoVersion(t *testing.T) {
	posts := []post{{2, 7}, {}, {3, 0}}
	refusals := []struct {
		name string
		do   func(h *hooks.Table)
	}{
		{"Attach at no hook", func(h *hooks.Table) { attaches(t, h, 3, 9, 0, api.ErrArg) }},
		{"Attach below", func(h *hooks.Table) { attaches(t, h, -1, 9, 0, api.ErrArg) }},
		{"Attach at one that is taken", func(h *hooks.Table) { attaches(t, h, 0, 9, 0, api.ErrBusy) }},
		{"Attach of what is there", func(h *hooks.Table) { attaches(t, h, 2, 0, 0, api.ErrBusy) }},
		{"Swap at no hook", func(h *hooks.Table) { swaps(t, h, 3, 9, 0, api.ErrArg) }},
		{"Swap below", func(h *hooks.Table) { swaps(t, h, math.MinInt, 9, 0, api.ErrArg) }},
		{"Swap at an empty one", func(h *hooks.Table) { swaps(t, h, 1, 7, 0, api.ErrNone) }},
		{"Detach of no hook", func(h *hooks.Table) { detaches(t, h, api.ErrArg, 0, 2, 3) }},
		{"Detach twice", func(h *hooks.Table) { detaches(t, h, api.ErrArg, 0, 2, 0) }},
		{"Detach of an empty one", func(h *hooks.Table) { detaches(t, h, api.ErrNone, 0, 2, 1) }},
	}
	for _, one := range refusals {
		for _, next := range []func(h *hooks.Table, v int){
			func(h *hooks.Table, v int) { fresh(t, h, v) },
			func(h *hooks.Table, v int) { attaches(t, h, 1, 9, v, api.OK) },
			func(h *hooks.Table, v int) { swaps(t, h, 0, 9, v, api.OK) },
		} {
			h := with(t, 4, posts...)
			for range 3 {
				one.do(h)
				want(t, one.name, h, 4, posts...)
			}
			next(h, 5)
			last(t, h, 5)
		}
	}
	h := with(t, 4, posts...)
	for range 3 {
		for _, one := range refusals {
			one.do(h)
		}
		h.Current(0)
		h.Where(7, 0)
		h.Last()
	}
	want(t, "all of them", h, 4, posts...)
	fresh(t, h, 5)
}

// TestHandedToDetach: rule 5; the hooks that Detach is handed stay as they were, with what is about them, where it does it and where it refuses, and may be written over behind it.
func TestHandedToDetach(t *testing.T) {
	posts := []post{{1, 5}, {2, 0}, {3, 5}, {}}
	for _, one := range []struct {
		list []int
		e    api.Errno
	}{
		{[]int{}, api.OK}, {[]int{2}, api.OK}, {[]int{2, 0}, api.OK}, {[]int{2, 1, 0}, api.OK}, {[]int{1, 2, 0}, api.OK},
		{[]int{2, 2}, api.ErrArg}, {[]int{2, 1, 2}, api.ErrArg}, {[]int{2, 9, 0}, api.ErrArg}, {[]int{2, -1, 0}, api.ErrArg},
		{[]int{3}, api.ErrNone}, {[]int{2, 3, 0}, api.ErrNone}, {[]int{3, 2, 9, 1}, api.ErrArg}, {[]int{3, 2, 1, 0, 3}, api.ErrArg},
	} {
		whole := append(append([]int{77, 0}, one.list...), 55, 1, 2)
		was, end := slices.Clone(whole), len(one.list)+2
		for _, room := range []int{end, end + 2, end + 3} {
			h, behind := with(t, 3, posts...), posts
			detaches(t, h, one.e, whole[2:end:room]...)
			if !slices.Equal(whole, was) {
				t.Fatalf("Detach(%v) left %v of %v", one.list, whole, was)
			}
			if one.e == api.OK {
				behind = emptied(posts, one.list...)
			}
			for i := range whole {
				whole[i] = 1
			}
			want(t, "the list written over", h, 3, behind...)
			copy(whole, was)
		}
	}
}

// TestHandedToWhere: rule 5; likewise the programs that Where is handed, and what it answers shares no memory with them.
func TestHandedToWhere(t *testing.T) {
	posts := []post{{1, 5}, {2, 0}, {3, 5}, {}}
	h := with(t, 3, posts...)
	for _, progs := range [][]int{{}, {5}, {5, 0}, {0, 5, 0}, {9, 5, -1, 0}, {9, 8, 7}, {5, 5, 5, 5}, {2, 1, 0, 5, 4, 3, 2, 1}} {
		whole := append(append([]int{77, 5}, progs...), 55, 5, 0, 54)
		was, end := slices.Clone(whole), len(progs)+2
		for _, room := range []int{end, end + 2, end + 4} {
			got := h.Where(whole[2:end:room]...)
			kept := slices.Clone(got)
			if !slices.Equal(whole, was) {
				t.Fatalf("Where(%v) left %v of %v", progs, whole, was)
			}
			for i := range whole {
				whole[i] = -9
			}
			if !slices.Equal(got, kept) {
				t.Errorf("Where(%v): the answer %v has become %v", progs, kept, got)
			}
			copy(whole, was)
			spoil(got)
			if !slices.Equal(whole, was) {
				t.Errorf("Where(%v): the answer lies in the list", progs)
			}
			want(t, "both written over", h, 3, posts...)
		}
	}
}

// TestAnswersAreNew: P19.4, rule 5; what Where answers may be written over, its spare room too, and appended to, with nothing changed, and no two answers share memory.
func TestAnswersAreNew(t *testing.T) {
	for many := 1; many <= 4; many++ {
		everyState(many, []int{0, 6}, func(version int, posts []post) {
			h := with(t, version, posts...)
			for _, progs := range [][]int{nil, {0}, {6}, {6, 0}, {9}} {
				first, second := h.Where(progs...), h.Where(progs...)
				kept := slices.Clone(second)
				_ = append(first, 66, 67)
				spoil(first)
				if !slices.Equal(second, kept) {
					t.Errorf("Where(%v): two answers share memory", progs)
				}
				want(t, "an answer spoilt", h, version, posts...)
			}
		})
	}
}

// TestAnswersStay: P19.4, rule 5; what was answered stays as it was, whatever is done behind it.
func TestAnswersStay(t *testing.T) {
	h := with(t, 3, post{1, 4}, post{2, 9}, post{3, 4})
	both, all := h.Where(4), h.Where(9, 4)
	detaches(t, h, api.OK, 0, 2)
	swaps(t, h, 1, 4, 4, api.OK)
	h.Where(4)
	attaches(t, h, 2, 9, 5, api.OK)
	h.Where(9, 4)
	if !slices.Equal(both, []int{0, 2}) || !slices.Equal(all, []int{0, 1, 2}) {
		t.Errorf("answers have become %v and %v", both, all)
	}
}

// TestApart: rule 7; what is done to one table isn't seen in another.
func TestApart(t *testing.T) {
	a, b := made(t, 2), made(t, 4)
	attaches(t, a, 1, 7, 1, api.OK)
	want(t, "the other", b, 0, make([]post, 4)...)
	attaches(t, b, 1, 8, 1, api.OK)
	attaches(t, b, 3, 7, 2, api.OK)
	want(t, "the one", a, 1, post{}, post{1, 7})
	swaps(t, a, 1, 9, 2, api.OK)
	fresh(t, a, 3)
	attaches(t, a, 3, 9, 0, api.ErrArg)
	want(t, "the other", b, 2, post{}, post{1, 8}, post{}, post{2, 7})
	detaches(t, b, api.OK, 3, 1)
	want(t, "the one", a, 3, post{}, post{2, 9})
	detaches(t, a, api.OK, 1)
	swaps(t, b, 1, 8, 0, api.ErrNone)
	fresh(t, b, 3)
	want(t, "the one", a, 3, post{}, post{})
}
