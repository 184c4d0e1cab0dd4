package sigs_test

import (
	"math"
	"math/rand"
	"slices"
	"strings"
	"testing"

	"tappet/api"
	"tappet/sigs"
	"tappet/span"
)

const (
	most = uint64(math.MaxUint64)
	top  = most // the greatest number of Full
)

// row is a line of the chapter's table: a letter for each argument (h a handle, n a number, m a mark, which is a number of at most 15), the operation on a map, if there is one, and the greatest answer.
type row struct {
	name, args string
	op         api.MapOp
	asks       bool
	greatest   uint64
}

// table is the chapter's, at the helpers' numbers.
func table() []row {
	return []row{
		0: {"get", "hn", 0, true, top},
		1: {"has", "hn", 1, true, 1},
		2: {"put", "hnn", 2, true, 1},
		3: {"del", "hn", 3, true, 1},
		4: {"add", "hnn", 4, true, top},
		5: {"mark", "m", 0, false, top},
		6: {"note", "n", 0, false, 0},
	}
}

// rowOf is the helper's row, and whether there is one.
func rowOf(h int) (row, bool) {
	for k, r := range table() {
		if k == h {
			return r, true
		}
	}
	return row{}, false
}

// num is a number from lo to hi.
func num(lo, hi uint64) api.Type {
	return api.Type{Kind: 1, Span: api.Span{Lo: lo, Hi: hi}}
}

// greatestOf is the greatest number that a letter of the table lets in.
func greatestOf(letter byte) uint64 {
	if letter == 'm' {
		return 15
	}
	return top
}

// wanted are the types that the letters stand for.
func wanted(letters string) []api.Type {
	var ts []api.Type
	for _, l := range []byte(letters) {
		if l == 'h' {
			ts = append(ts, api.Type{Kind: 2})
		} else {
			ts = append(ts, num(0, greatestOf(l)))
		}
	}
	return ts
}

// told is P8.2 by the table.
func told(h int, args []api.Type) api.Errno {
	r, ok := rowOf(h)
	if !ok {
		return 34
	}
	if len(r.args) != len(args) {
		return 2
	}
	for i, a := range args {
		switch l := r.args[i]; {
		case l == 'h' && a.Kind != 2, l != 'h' && a.Kind != 1:
			return 33
		case l == 'h':
		case a.Span.Lo > a.Span.Hi || a.Span.Hi > greatestOf(l):
			return 35
		}
	}
	return 0
}

// numbers are every helper, and numbers that are none: the neighbours, the least, the greatest, and those that become a helper once their upper bits are lost.
func numbers() []int {
	hs := []int{math.MinInt, math.MinInt + 1, math.MinInt + 5, math.MinInt32, math.MaxInt32, math.MaxInt - 1, math.MaxInt}
	for h := -40; h <= 70; h++ {
		hs = append(hs, h)
	}
	for h := range 7 {
		hs = append(hs, h+1<<8, h-1<<8, h+1<<16, h+1<<32, h-1<<32, ^h)
	}
	slices.Sort(hs)
	return slices.Compact(hs)
}

// spans are ones within {0 15}, at its ends, one beyond them, Full and about its ends, single ones, and ones that aren't right.
func spans() []api.Span {
	return []api.Span{
		{Lo: 0, Hi: 0}, {Lo: 0, Hi: 15}, {Lo: 15, Hi: 15}, {Lo: 1, Hi: 14}, {Lo: 7, Hi: 7}, {Lo: 1, Hi: 15}, {Lo: 0, Hi: 14},
		{Lo: 0, Hi: 16}, {Lo: 15, Hi: 16}, {Lo: 16, Hi: 16}, {Lo: 16, Hi: 20}, {Lo: 0, Hi: 1 << 32}, {Lo: 1 << 32, Hi: 1<<32 + 15},
		{Lo: 0, Hi: most}, {Lo: 1, Hi: most}, {Lo: 0, Hi: most - 1}, {Lo: most, Hi: most}, {Lo: 1 << 63, Hi: 1 << 63},
		{Lo: 1, Hi: 0}, {Lo: 15, Hi: 14}, {Lo: 16, Hi: 15}, {Lo: most, Hi: 0}, {Lo: most, Hi: most - 1}, {Lo: most, Hi: 15},
	}
}

// kinds are the three, and numbers that are none.
func kinds() []api.Kind {
	return []api.Kind{0, 1, 2, -1, 3, -2, 1 + 1<<8, 2 + 1<<8, 1 + 1<<32, 2 + 1<<32, math.MinInt, math.MaxInt}
}

// types are arguments of every kind with every span, with any map.
func types() []api.Type {
	maps := []int{0, 3, -1, 4, math.MaxInt, math.MinInt}
	var ts []api.Type
	for _, k := range kinds() {
		for _, s := range spans() {
			ts = append(ts, api.Type{Kind: k, Span: s, Map: maps[len(ts)%len(maps)]})
		}
	}
	return ts
}

// few are the most telling of them.
func few() []api.Type {
	ts := []api.Type{
		{}, {Map: 2}, {Kind: 2}, {Kind: 2, Map: 3}, {Kind: 2, Map: -9, Span: api.Span{Lo: 7, Hi: 3}}, {Kind: 2, Span: api.Span{Hi: 16}},
		{Kind: 3, Span: api.Span{Hi: 3}}, {Kind: -1}, {Kind: math.MaxInt}, {Kind: 1, Map: 4, Span: api.Span{Hi: 15}}, {Kind: 1, Map: math.MinInt},
	}
	for _, s := range []api.Span{{Hi: 15}, {Hi: 16}, {Lo: 15, Hi: 15}, {Lo: 16, Hi: 16}, {Hi: most}, {Lo: most, Hi: most}, {Lo: 1, Hi: 0}, {Lo: most, Hi: 3}} {
		ts = append(ts, num(s.Lo, s.Hi))
	}
	return ts
}

// each calls f with every list of n of the things.
func each(n int, of []api.Type, f func([]api.Type)) {
	var list []api.Type
	var grow func()
	grow = func() {
		if len(list) == n {
			f(list)
			return
		}
		for _, t := range of {
			list = append(list, t)
			grow()
			list = list[:len(list)-1]
		}
	}
	grow()
}

func TestNames(t *testing.T) {
	for _, h := range numbers() {
		r, _ := rowOf(h)
		if got := sigs.Name(h); got != r.name {
			t.Errorf("P8.1: Name(%d) = %q, want %q", h, got, r.name)
		}
	}
	for h, r := range table() {
		if got, ok := sigs.Find(r.name); got != h || !ok {
			t.Errorf("P8.1: Find(%q) = %d, %v, want %d", r.name, got, ok, h)
		}
		for i := range r.name {
			isNone(t, r.name[:i])
			isNone(t, r.name[i+1:])
			isNone(t, r.name[:i]+strings.ToUpper(r.name[i:i+1])+r.name[i+1:])
			isNone(t, r.name[:i]+" "+r.name[i:])
		}
		for _, s := range []string{r.name + " ", r.name + "s", "\x00" + r.name, r.name + "\x00", r.name + "\n", r.name + r.name, strings.ToUpper(r.name)} {
			isNone(t, s)
		}
	}
	for _, s := range []string{"", " ", "0", "get has", "getter", "set", "call", "walk", "\xff", "ｇｅｔ", strings.Repeat("get", 1000)} {
		isNone(t, s)
	}
}

// isNone: it is no helper's name.
func isNone(t *testing.T, name string) {
	t.Helper()
	if h, ok := sigs.Find(name); h != 0 || ok {
		t.Errorf("P8.1: Find(%q) = %d, %v", name, h, ok)
	}
}

func TestArgs(t *testing.T) {
	for _, h := range numbers() {
		r, _ := rowOf(h)
		if got := sigs.Args(h); !slices.Equal(got, wanted(r.args)) {
			t.Errorf("P8.1: Args(%d) = %v, want %v", h, got, wanted(r.args))
		}
	}
}

func TestResult(t *testing.T) {
	for _, h := range numbers() {
		r, there := rowOf(h)
		var want api.Type
		if there {
			want = num(0, r.greatest)
		}
		if got, ok := sigs.Result(h); got != want || ok != there {
			t.Errorf("P8.1: Result(%d) = %v, %v, want %v, %v", h, got, ok, want, there)
		}
	}
}

func TestAsks(t *testing.T) {
	for _, h := range numbers() {
		r, _ := rowOf(h)
		if op, ok := sigs.Asks(h); op != r.op || ok != r.asks {
			t.Errorf("P8.1: Asks(%d) = %d, %v, want %d, %v", h, op, ok, r.op, r.asks)
		}
	}
}

// TestHelpersByName holds api's names of the helpers and operations against the table.
func TestHelpersByName(t *testing.T) {
	for _, c := range []struct {
		h    int
		name string
	}{
		{api.HelpGet, "get"}, {api.HelpHas, "has"}, {api.HelpPut, "put"}, {api.HelpDel, "del"}, {api.HelpAdd, "add"}, {api.HelpMark, "mark"}, {api.HelpNote, "note"},
	} {
		if h, ok := sigs.Find(c.name); h != c.h || !ok || sigs.Name(c.h) != c.name {
			t.Errorf("P8.1: %q is %d, %v, want %d", c.name, h, ok, c.h)
		}
	}
	for h, want := range []api.MapOp{api.MapGet, api.MapHas, api.MapPut, api.MapDel, api.MapAdd} {
		if op, ok := sigs.Asks(h); op != want || !ok {
			t.Errorf("P8.1: Asks(%d) = %d, %v, want %d", h, op, ok, want)
		}
	}
}

// check holds Check against the table.
func check(t *testing.T, h int, args ...api.Type) {
	t.Helper()
	if e, want := sigs.Check(h, args...), told(h, args); e != want {
		t.Errorf("P8.2: Check(%d, %v) = %d, want %d", h, args, e, want)
	}
}

func TestExamples(t *testing.T) {
	handle, full := api.Type{Kind: api.Handle}, num(0, most)
	for _, c := range []struct {
		h    int
		args []api.Type
		e    api.Errno
	}{
		{5, []api.Type{num(0, 15)}, api.OK},
		{5, []api.Type{num(0, 16)}, api.ErrBound},
		{0, []api.Type{full, full}, api.ErrType},
		{0, []api.Type{handle}, api.ErrArg},
		{9, nil, api.ErrHelper},
		{4, []api.Type{handle, {}, handle}, api.ErrType},

		// Several errors in one call: the first in the order is told.
		{7, []api.Type{{}, {}}, api.ErrHelper},
		{5, []api.Type{handle, handle}, api.ErrArg},
		{5, []api.Type{num(0, 16), num(0, 16)}, api.ErrArg},
		{5, []api.Type{{Kind: api.Handle, Span: api.Span{Hi: 16}}}, api.ErrType},
		{5, []api.Type{{Span: api.Span{Lo: 2, Hi: 1}}}, api.ErrType},
		{4, []api.Type{handle, num(2, 1), handle}, api.ErrBound},
		{4, []api.Type{handle, handle, num(2, 1)}, api.ErrType},
		{2, []api.Type{num(2, 1), num(2, 1), num(2, 1)}, api.ErrType},
		{2, []api.Type{handle, num(9, 9), num(9, 8)}, api.ErrBound},

		// A handle is of any map and has any span, a number has any map.
		{1, []api.Type{{Kind: api.Handle, Map: -3, Span: api.Span{Lo: 5, Hi: 1}}, {Kind: api.Num, Map: 77}}, api.OK},
	} {
		if e := sigs.Check(c.h, c.args...); e != c.e {
			t.Errorf("P8.2: Check(%d, %v) = %d, want %d", c.h, c.args, e, c.e)
		}
	}
}

// TestCheckAtNumbers calls what is a helper and what isn't with nothing, with what some helper wants, and with what none does.
func TestCheckAtNumbers(t *testing.T) {
	for _, h := range numbers() {
		check(t, h)
		for _, r := range table() {
			check(t, h, wanted(r.args)...)
		}
		for _, a := range few() {
			check(t, h, a)
			check(t, h, a, a)
		}
	}
}

// TestCheckCounts gives each helper one too few and one too many, and many more.
func TestCheckCounts(t *testing.T) {
	for h, r := range table() {
		good := wanted(r.args)
		if e := sigs.Check(h, good...); e != api.OK {
			t.Errorf("P8.2: Check(%d, %v) = %d", h, good, e)
		}
		for n := range len(good) {
			wrong(t, h, good[:n])
		}
		for _, a := range types() {
			wrong(t, h, append(slices.Clone(good), a))
			wrong(t, h, append([]api.Type{a}, good...))
		}
		wrong(t, h, slices.Repeat(good, 2))
		wrong(t, h, slices.Repeat(good, 1000))
	}
}

// wrong: there are not as many as the helper wants.
func wrong(t *testing.T, h int, args []api.Type) {
	t.Helper()
	if e := sigs.Check(h, args...); e != api.ErrArg {
		t.Errorf("P8.2: Check(%d) of %d arguments = %d", h, len(args), e)
	}
}

// TestCheckPlaces puts an argument of every type at each place of each helper, beside good ones.
func TestCheckPlaces(t *testing.T) {
	for h, r := range table() {
		for i := range r.args {
			for _, a := range types() {
				args := wanted(r.args)
				args[i] = a
				check(t, h, args...)
			}
		}
	}
}

// TestCheckLists gives each helper every list of few types.
func TestCheckLists(t *testing.T) {
	for h := -1; h <= 7; h++ {
		for n := range 4 {
			each(n, few(), func(args []api.Type) { check(t, h, args...) })
		}
	}
}

// TestCheckWithin holds Check of a mark against layer 6's Within, about all small ends.
func TestCheckWithin(t *testing.T) {
	for lo := range uint64(20) {
		for hi := range uint64(20) {
			want := api.ErrBound
			if span.Within(api.Span{Lo: lo, Hi: hi}, api.Span{Hi: api.Slots - 1}) {
				want = api.OK
			}
			if e := sigs.Check(api.HelpMark, num(lo, hi)); e != want {
				t.Errorf("P8.2: Check(5, {Num {%d %d}}) = %d, want %d", lo, hi, e, want)
			}
		}
	}
}

// TestResultsAsArgs: what one helper answers may be handed to others, just where it is within what they want.
func TestResultsAsArgs(t *testing.T) {
	for h, r := range table() {
		answer, _ := sigs.Result(h)
		if e := sigs.Check(api.HelpNote, answer); e != api.OK {
			t.Errorf("P8.2: note of what %s answers: %d", r.name, e)
		}
		want := api.OK
		if r.greatest == top {
			want = api.ErrBound
		}
		if e := sigs.Check(api.HelpMark, answer); e != want {
			t.Errorf("P8.2: mark of what %s answers: %d, want %d", r.name, e, want)
		}
	}
}

// results are Res with E, Found, Val and the evicted key set and not.
func results() []api.Res {
	var rs []api.Res
	for _, e := range []api.Errno{api.OK, api.ErrFull, api.ErrNone, api.ErrArg, api.ErrNil, -1, math.MaxInt, math.MinInt, 1 << 32} {
		for _, val := range []uint64{0, 1, 2, 7, 1 << 32, 1 << 63, most} {
			for _, found := range []bool{false, true} {
				rs = append(rs,
					api.Res{E: e, Found: found, Val: val},
					api.Res{E: e, Found: found, Val: val, Out: true, OutKey: 5, OutVal: 6},
					api.Res{E: e, Found: found, Val: val, OutKey: most, OutVal: 1})
			}
		}
	}
	return rs
}

// toldValue is P8.3 by the helpers' names.
func toldValue(h int, r api.Res) uint64 {
	w, _ := rowOf(h)
	switch {
	case w.name == "get", w.name == "add":
		return r.Val
	case w.name == "has" && r.Found, w.name == "del" && r.Found, w.name == "put" && r.E == 0:
		return 1
	}
	return 0
}

func TestValue(t *testing.T) {
	for _, c := range []struct {
		h    int
		r    api.Res
		want uint64
	}{
		{2, api.Res{E: api.ErrFull}, 0},
		{0, api.Res{Val: 7}, 7},
		{0, api.Res{E: api.ErrNone, Val: 7}, 7},
		{1, api.Res{Found: true, Val: 9}, 1},
		{1, api.Res{Val: 9}, 0},
		{2, api.Res{Found: true, Val: 9}, 1},
		{2, api.Res{E: api.ErrFull, Found: true, Val: 1}, 0},
		{3, api.Res{E: api.ErrArg, Found: true, Val: 9}, 1},
		{4, api.Res{Val: most}, most},
		{5, api.Res{Found: true, Val: 9}, 0},
		{6, api.Res{Found: true, Val: 9}, 0},
		{7, api.Res{Found: true, Val: 9}, 0},
	} {
		if got := sigs.Value(c.h, c.r); got != c.want {
			t.Errorf("P8.3: Value(%d, %v) = %d, want %d", c.h, c.r, got, c.want)
		}
	}
	for _, h := range numbers() {
		for _, r := range results() {
			if got, want := sigs.Value(h, r), toldValue(h, r); got != want {
				t.Errorf("P8.3: Value(%d, %v) = %d, want %d", h, r, got, want)
			}
		}
	}
}

// TestAnswersAreNew spoils answers, their spare room too, and looks at other and later ones.
func TestAnswersAreNew(t *testing.T) {
	bad := api.Type{Kind: 9, Map: 9, Span: api.Span{Lo: 9, Hi: 8}}
	for h := range table() {
		kept := sigs.Args(h)
		spoiled := sigs.Args(h)
		spoiled = spoiled[:cap(spoiled)]
		for i := range spoiled {
			spoiled[i] = bad
		}
		for k, r := range table() {
			if got := sigs.Args(k); !slices.Equal(got, wanted(r.args)) {
				t.Errorf("P8.4: Args(%d) = %v once Args(%d) was spoiled", k, got, h)
			}
			check(t, k, wanted(r.args)...)
			check(t, k, bad)
		}
		if r, _ := rowOf(h); !slices.Equal(kept, wanted(r.args)) {
			t.Errorf("P8.4: an earlier Args(%d) became %v", h, kept)
		}
		if answer, _ := sigs.Result(h); answer.Map != 0 || answer.Kind != api.Num {
			t.Errorf("P8.4: Result(%d) = %v once Args(%d) was spoiled", h, answer, h)
		}
	}
}

// TestHandedIn: what Check is given stays as it was, its spare room too, and what becomes of it later changes no answer.
func TestHandedIn(t *testing.T) {
	for h, r := range table() {
		room := append(wanted(r.args), few()...)
		args, was := room[:len(r.args)], slices.Clone(room)
		if e := sigs.Check(h, args...); e != api.OK || !slices.Equal(room, was) {
			t.Errorf("P8.2: Check(%d) = %d, and its arguments became %v, were %v", h, e, room, was)
		}
		for i := range args {
			args[i] = api.Type{}
		}
		if got := sigs.Args(h); !slices.Equal(got, wanted(r.args)) {
			t.Errorf("P8.4: Args(%d) = %v once what was checked had changed", h, got)
		}
		if e := sigs.Check(h, args...); e != api.ErrType {
			t.Errorf("P8.2: Check(%d) of what has become unset = %d", h, e)
		}
	}
}

// TestAtRandom holds Check against the table with types of any kind and span, mostly of the kind that is wanted.
func TestAtRandom(t *testing.T) {
	r := rand.New(rand.NewSource(8))
	some := func() uint64 { return r.Uint64() >> r.Intn(65) }
	for range 200000 {
		h := r.Intn(9) - 1
		w, _ := rowOf(h)
		args := wanted(w.args)
		for i := range args {
			if args[i].Kind == 1 || r.Intn(3) == 0 {
				args[i].Span = api.Span{Lo: some(), Hi: some()}
			}
			if args[i].Map = r.Intn(9) - 4; r.Intn(8) == 0 {
				args[i].Kind = api.Kind(r.Intn(5) - 1)
			}
		}
		if r.Intn(8) == 0 {
			args = append(args, api.Type{Kind: api.Kind(r.Intn(3))})
		}
		check(t, h, args...)
	}
}

// FuzzCheck holds Check and Value against the table.
func FuzzCheck(f *testing.F) {
	f.Add(5, 1, 1, uint64(0), uint64(15), 0, uint64(3), uint64(4))
	f.Add(4, 3, 2, uint64(9), uint64(8), 1, uint64(0), most)
	f.Add(-1, 0, 0, uint64(0), uint64(0), 2, uint64(1), uint64(0))
	f.Fuzz(func(t *testing.T, h, n, kind int, lo, hi uint64, kind2 int, lo2, hi2 uint64) {
		a := api.Type{Kind: api.Kind(kind), Span: api.Span{Lo: lo, Hi: hi}, Map: n}
		b := api.Type{Kind: api.Kind(kind2), Span: api.Span{Lo: lo2, Hi: hi2}, Map: h}
		check(t, h)
		check(t, h, a)
		check(t, h, a, b)
		check(t, h, a, b, b)
		check(t, h, api.Type{Kind: api.Handle}, a)
		check(t, h, api.Type{Kind: api.Handle}, a, b)
		check(t, h, slices.Repeat([]api.Type{a}, n&7)...)
		r := api.Res{E: api.Errno(kind), Found: n&1 == 1, Val: lo, Out: n&2 == 2, OutKey: hi, OutVal: lo2}
		if got, want := sigs.Value(h, r), toldValue(h, r); got != want {
			t.Errorf("P8.3: Value(%d, %v) = %d, want %d", h, r, got, want)
		}
	})
}
