package flow_test

import (
	"fmt"
	"math"
	"math/big"
	"math/bits"
	"math/rand"
	"slices"
	"testing"

	"tappet/api"
	"tappet/flow"
	"tappet/lines"
	"tappet/ops"
)

var (
	stay  = api.Inst{Op: api.OpSet, D: 1, B: api.Immediate, Imm: 9}
	end   = api.Inst{Op: api.OpExit, A: 1}
	wrong = api.Inst{Op: api.OpSet, D: 8}
)

func jump(d int) api.Inst { return api.Inst{Op: api.OpJump, D: d} }

func jeq(d int) api.Inst { return api.Inst{Op: api.OpJeq, D: d, A: 1, B: api.Immediate, Imm: 3} }

func loop(d, bound int) api.Inst {
	return api.Inst{Op: api.OpLoop, D: d, A: 1, Imm: int64(bound)}
}

func code(is ...api.Inst) []api.Inst { return is }

// stays are n instructions that go on and lead nowhere.
func stays(n int) []api.Inst {
	return slices.Repeat([]api.Inst{stay}, n)
}

// joined is the codes one behind the other.
func joined(parts ...[]api.Inst) []api.Inst {
	return slices.Concat(parts...)
}

// ofEach is a right instruction of each operation, which leads as little far as it may.
func ofEach() []api.Inst {
	is := make([]api.Inst, api.Ops)
	for op := range is {
		is[op].Op = api.Op(op)
	}
	is[api.OpLoop] = loop(1, 1)
	return is
}

// target is to which place the instruction at a place leads, by the chapter's words, and whether it leads anywhere.
func target(i api.Inst, at int) (int, bool) {
	switch i.Op {
	case api.OpJump, api.OpJeq, api.OpJne, api.OpJlt, api.OpJge:
		return at + i.D + 1, true
	case api.OpLoop:
		return at - i.D, true
	}
	return 0, false
}

func goesOn(i api.Inst) bool {
	return i.Op != api.OpJump && i.Op != api.OpExit
}

// body is a loop's places as a set, a bit for each.
func body(l api.Loop) uint64 {
	return 1<<(l.At+1) - 1<<l.Head
}

func toldLoops(code []api.Inst) []api.Loop {
	var loops []api.Loop
	for at, i := range code {
		if i.Op == api.OpLoop {
			loops = append(loops, api.Loop{Head: at - i.D, At: at, Bound: int(i.Imm)})
		}
	}
	return loops
}

func toldAround(code []api.Inst, at int) []int {
	var ats []int
	for _, l := range toldLoops(code) {
		if body(l)>>at&1 == 1 {
			ats = append(ats, l.At)
		}
	}
	return ats
}

// toldCost is the cost, reckoned with whole numbers of any size.
func toldCost(code []api.Inst) *big.Int {
	sum := new(big.Int)
	for at := range code {
		product := big.NewInt(1)
		for _, l := range toldLoops(code) {
			if body(l)>>at&1 == 1 {
				product.Mul(product, big.NewInt(int64(l.Bound)+1))
			}
		}
		sum.Add(sum, product)
	}
	return sum
}

func toldNext(code []api.Inst, at int) []int {
	var places []int
	for p := range code {
		to, leads := target(code[at], at)
		if leads && p == to || goesOn(code[at]) && p == at+1 {
			places = append(places, p)
		}
	}
	return places
}

// toldPlaces is what P7.1 says of each place by itself.
func toldPlaces(code []api.Inst) (int, api.Errno) {
	for at, i := range code {
		if !ops.Right(i) {
			return at, api.ErrForm
		}
		if to, leads := target(i, at); leads && (to < 0 || to > len(code)-1) {
			return at, api.ErrFlow
		}
		if at+1 == len(code) && goesOn(i) {
			return at, api.ErrEnd
		}
	}
	return 0, api.OK
}

// toldBodies is what P7.1 says of the loops and of the jumps into them, by sets of places.
func toldBodies(code []api.Inst) (int, api.Errno) {
	loops := toldLoops(code)
	for _, l := range loops {
		for _, m := range loops {
			apart := body(l)&body(m) == 0
			inside := body(m)&^body(l) == 0
			if m.At < l.At && !apart && !inside {
				return l.At, api.ErrLoop
			}
		}
	}
	for at, i := range code {
		to, leads := target(i, at)
		for _, l := range loops {
			midst := body(l) &^ (1 << l.Head)
			if leads && body(l)>>at&1 == 0 && midst>>to&1 == 1 {
				return at, api.ErrLoop
			}
		}
	}
	return 0, api.OK
}

// told is P7.1.
func told(code []api.Inst) (int, api.Errno) {
	if len(code) < 1 {
		return 0, api.ErrShort
	}
	if len(code) > 64 {
		return 0, api.ErrLong
	}
	if at, e := toldPlaces(code); e != api.OK {
		return at, e
	}
	if at, e := toldBodies(code); e != api.OK {
		return at, e
	}
	if toldCost(code).Cmp(big.NewInt(256)) > 0 {
		return 0, api.ErrCost
	}
	return 0, api.OK
}

// ats are places of a code of n instructions and numbers that are none.
func ats(n int) []int {
	return []int{0, n / 2, n - 1, -1, n, n + 1, 64, 65, -64, math.MinInt, math.MinInt + 1, math.MaxInt - 1, math.MaxInt, math.MinInt32, math.MaxInt32, 1 << 32, 1 << 62}
}

// holdAll holds every call at the code against what is told of it, at all its places and at some that are none.
func holdAll(t *testing.T, code []api.Inst) api.Errno {
	t.Helper()
	at, e := told(code)
	if gotAt, got := flow.Check(code); gotAt != at || got != e {
		t.Fatalf("P7.1: %v: %d, %d; not %d, %d", code, gotAt, got, at, e)
	}
	for _, at := range ats(len(code)) {
		holdAt(t, code, at, e)
	}
	if e != api.OK {
		holdNone(t, code, e)
		return e
	}
	for at := range code {
		holdAt(t, code, at, e)
	}
	if l, e := flow.Loops(code); !slices.Equal(l, toldLoops(code)) || e != api.OK {
		t.Fatalf("P7.4: %v: Loops %v, %d", code, l, e)
	}
	if n, e := flow.Cost(code); big.NewInt(int64(n)).Cmp(toldCost(code)) != 0 || e != api.OK {
		t.Fatalf("P7.4: %v: Cost %d, %d", code, n, e)
	}
	return e
}

// holdNone: Loops and Cost answer nothing and Check's error.
func holdNone(t *testing.T, code []api.Inst, e api.Errno) {
	t.Helper()
	if l, got := flow.Loops(code); len(l) != 0 || got != e {
		t.Fatalf("P7.2: %v: Loops %v, %d; not %d", code, l, got, e)
	}
	if n, got := flow.Cost(code); n != 0 || got != e {
		t.Fatalf("P7.2: %v: Cost %d, %d; not %d", code, n, got, e)
	}
}

// holdAt holds Next and Around at a place against what is told, where Check answers e.
func holdAt(t *testing.T, code []api.Inst, at int, e api.Errno) {
	t.Helper()
	var next, around []int
	switch {
	case e != api.OK:
	case at < 0 || at >= len(code):
		e = api.ErrArg
	default:
		next, around = toldNext(code, at), toldAround(code, at)
	}
	if n, got := flow.Next(code, at); !slices.Equal(n, next) || got != e {
		t.Fatalf("P7.2, P7.3: %v: Next at %d: %v, %d; not %v, %d", code, at, n, got, next, e)
	}
	if a, got := flow.Around(code, at); !slices.Equal(a, around) || got != e {
		t.Fatalf("P7.2, P7.4: %v: Around %d: %v, %d; not %v, %d", code, at, a, got, around, e)
	}
}

// want holds Check against a place and an error that are written out, and all calls against what is told.
func want(t *testing.T, code []api.Inst, at int, e api.Errno) {
	t.Helper()
	if gotAt, got := flow.Check(code); gotAt != at || got != e {
		t.Errorf("P7.1: %v: %d, %d; not %d, %d", code, gotAt, got, at, e)
	}
	holdAll(t, code)
}

func wantInts(t *testing.T, what string, got []int, e api.Errno, want ...int) {
	t.Helper()
	if !slices.Equal(got, want) || e != api.OK {
		t.Errorf("%s: %v, %d; not %v", what, got, e, want)
	}
}

func parsed(t *testing.T, text string) []api.Inst {
	t.Helper()
	is, _, e := lines.Parse(text)
	if e != api.OK {
		t.Fatalf("%q: %d", text, e)
	}
	return is
}

func TestExamples(t *testing.T) {
	for _, c := range []struct {
		text string
		at   int
		e    api.Errno
	}{
		{"set r0 0\nexit r0\n", 0, api.OK},
		{"set r0 0\n", 0, api.ErrEnd},
		{"jump 1\nexit r0\n", 0, api.ErrFlow},
		{"set r1 9\nsub r1 r1 1\nloop r1 1 5\nexit r1\n", 0, api.OK},
		{"jump 0\nset r1 9\nloop r1 2 1\nexit r1\n", 0, api.OK},
		{"jump 1\nset r1 9\nset r1 8\nloop r1 2 1\nexit r1\n", 0, api.ErrLoop},
		{"set r1 1\nloop r1 1 200\nloop r1 2 200\nexit r1\n", 0, api.ErrCost},
		{"set r0 0\nset r1 1\nloop r1 1 1\nloop r1 1 1\nexit r0\n", 3, api.ErrLoop},
	} {
		want(t, parsed(t, c.text), c.at, c.e)
	}
}

func TestExamplesAsked(t *testing.T) {
	short := parsed(t, "set r0 0\nexit r0\n")
	if n, e := flow.Cost(short); n != 2 || e != api.OK {
		t.Errorf("P7.4: Cost %d, %d", n, e)
	}
	next, e := flow.Next(short, 0)
	wantInts(t, "P7.3: Next at 0", next, e, 1)
	next, e = flow.Next(short, 1)
	wantInts(t, "P7.3: Next at 1", next, e)

	looped := parsed(t, "set r1 9\nsub r1 r1 1\nloop r1 1 5\nexit r1\n")
	if l, e := flow.Loops(looped); !slices.Equal(l, []api.Loop{{Head: 1, At: 2, Bound: 5}}) || e != api.OK {
		t.Errorf("P7.4: Loops %v, %d", l, e)
	}
	if n, e := flow.Cost(looped); n != 14 || e != api.OK {
		t.Errorf("P7.4: Cost %d, %d", n, e)
	}
	next, e = flow.Next(looped, 2)
	wantInts(t, "P7.3: Next at 2", next, e, 1, 3)
	around, e := flow.Around(looped, 2)
	wantInts(t, "P7.4: Around 2", around, e, 2)
}

func TestHowMany(t *testing.T) {
	want(t, nil, 0, api.ErrShort)
	want(t, code(), 0, api.ErrShort)
	want(t, make([]api.Inst, 0, 8), 0, api.ErrShort)
	want(t, code(end), 0, api.OK)
	want(t, joined(stays(62), code(end)), 0, api.OK)
	want(t, joined(stays(63), code(end)), 0, api.OK)
	want(t, joined(stays(64), code(end)), 0, api.ErrLong)
	want(t, stays(64), 63, api.ErrEnd)
	want(t, stays(65), 0, api.ErrLong)
	want(t, slices.Repeat(code(wrong), 65), 0, api.ErrLong)
	want(t, slices.Repeat(code(end), 64), 0, api.OK)
	want(t, slices.Repeat(code(end), 65), 0, api.ErrLong)
	want(t, slices.Repeat(code(end), 1<<16), 0, api.ErrLong)
}

// wrongs are instructions that aren't right, each by one thing.
func wrongs() []api.Inst {
	return []api.Inst{
		wrong, {Op: -1}, {Op: api.Ops}, {Op: math.MinInt}, {Op: math.MaxInt}, {Op: 1<<32 + api.OpExit},
		jump(-1), jump(64), jump(math.MinInt), jump(math.MaxInt), {Op: api.OpJump, A: 1}, {Op: api.OpJump, Imm: 1},
		jeq(-1), jeq(64), jeq(math.MaxInt), {Op: api.OpJne, A: 8}, {Op: api.OpJlt, B: 9}, {Op: api.OpJge, Imm: 1},
		loop(0, 1), loop(-1, 1), loop(64, 1), loop(math.MinInt, 1), loop(math.MaxInt, 1),
		loop(1, 0), loop(1, -1), loop(1, 256), loop(1, math.MaxInt), loop(1, math.MinInt), loop(1, 1<<32+1),
		{Op: api.OpExit, A: 8}, {Op: api.OpExit, A: -1}, {Op: api.OpExit, D: 1}, {Op: api.OpExit, Imm: 1},
		{Op: api.OpCall, Imm: 7}, {Op: api.OpMap, Imm: 4}, {Op: api.OpField, Imm: 2},
	}
}

func TestWrongInstructions(t *testing.T) {
	for _, w := range wrongs() {
		want(t, code(w), 0, api.ErrForm)
		want(t, code(w, end), 0, api.ErrForm)
		want(t, code(stay, stay, w, stay, end), 2, api.ErrForm)
		want(t, code(stay, stay, stay, w), 3, api.ErrForm)
		want(t, code(stay, w, stay, w, end), 1, api.ErrForm)
		for at := range 64 {
			long := slices.Repeat(code(end), 64)
			long[at] = w
			want(t, long, at, api.ErrForm)
		}
	}
}

func TestWhereItLeads(t *testing.T) {
	for _, n := range []int{2, 3, 5, 64} {
		for at := range n - 1 {
			for _, i := range ofEach() {
				holdLeads(t, i, n, at)
			}
		}
	}
}

// holdLeads lets the instruction at a place of n lead to the last, just behind it, to the first and just below it, as far as it may.
func holdLeads(t *testing.T, i api.Inst, n, at int) {
	t.Helper()
	base := slices.Repeat(code(end), n)
	ways := []struct {
		d int
		e api.Errno
	}{{n - 2 - at, api.OK}, {n - 1 - at, api.ErrFlow}}
	if i.Op == api.OpLoop {
		ways[0].d, ways[1].d = at, at+1
	}
	if _, leads := target(i, at); !leads {
		return
	}
	for _, w := range ways {
		i.D = w.d
		base[at] = i
		if !ops.Right(i) {
			want(t, base, at, api.ErrForm)
		} else if w.e != api.OK {
			want(t, base, at, w.e)
		} else {
			want(t, base, 0, w.e)
		}
	}
}

func TestFarBeyond(t *testing.T) {
	want(t, code(jump(63), end), 0, api.ErrFlow)
	want(t, code(jeq(63), end), 0, api.ErrFlow)
	want(t, code(loop(63, 1), end), 0, api.ErrFlow)
	want(t, code(end, loop(63, 1), end), 1, api.ErrFlow)
	want(t, joined(stays(62), code(loop(63, 1), end)), 62, api.ErrFlow)
	want(t, joined(code(jump(62)), stays(62), code(end)), 0, api.OK)
	want(t, joined(code(jump(63)), stays(62), code(end)), 0, api.ErrFlow)
}

// At the last place: what goes on is ErrEnd, unless it also leads out, which is named first.
func TestLast(t *testing.T) {
	for _, i := range ofEach() {
		e := api.ErrEnd
		switch i.Op {
		case api.OpExit:
			e = api.OK
		case api.OpJump, api.OpJeq, api.OpJne, api.OpJlt, api.OpJge:
			e = api.ErrFlow
		}
		for _, n := range []int{1, 2, 63} {
			at := n
			if e == api.OK {
				at = 0
			}
			want(t, joined(slices.Repeat(code(end), n), code(i)), at, e)
		}
	}
	want(t, code(jump(0)), 0, api.ErrFlow)
	want(t, code(loop(1, 1)), 0, api.ErrFlow)
	want(t, code(end, loop(2, 1)), 1, api.ErrFlow)
	want(t, joined(stays(63), code(loop(63, 1))), 63, api.ErrEnd)
}

func TestLoopsBesideOneAnother(t *testing.T) {
	apart := code(stay, loop(1, 1), stay, stay, loop(1, 2), end)
	side := code(stay, loop(1, 1), stay, loop(1, 1), end)
	same := code(stay, loop(1, 1), loop(2, 1), loop(3, 1), end)
	own := code(stay, stay, loop(1, 1), stay, loop(4, 1), end)
	behind := code(stay, stay, loop(1, 1), loop(3, 1), end)
	two := code(stay, stay, loop(1, 1), stay, loop(1, 1), loop(5, 2), end)
	for _, c := range [][]api.Inst{apart, side, same, own, behind, two} {
		want(t, c, 0, api.OK)
	}
	if l, e := flow.Loops(two); !slices.Equal(l, []api.Loop{{Head: 1, At: 2, Bound: 1}, {Head: 3, At: 4, Bound: 1}, {Head: 0, At: 5, Bound: 2}}) || e != api.OK {
		t.Errorf("P7.4: Loops %v, %d", l, e)
	}
	for at, want := range [][]int{{5}, {2, 5}, {2, 5}, {4, 5}, {4, 5}, {5}, nil} {
		got, e := flow.Around(two, at)
		wantInts(t, fmt.Sprint("P7.4: Around ", at), got, e, want...)
	}
	for at, want := range [][]int{{1, 2, 3}, {1, 2, 3}, {2, 3}, {3}, nil} {
		got, e := flow.Around(same, at)
		wantInts(t, fmt.Sprint("P7.4: Around ", at), got, e, want...)
	}
	if n, e := flow.Cost(two); n != 3+6+6+6+6+3+1 || e != api.OK {
		t.Errorf("P7.4: Cost %d, %d", n, e)
	}
	if n, e := flow.Cost(same); n != 8+8+4+2+1 || e != api.OK {
		t.Errorf("P7.4: Cost %d, %d", n, e)
	}
}

func TestLoopsThatCross(t *testing.T) {
	want(t, code(stay, stay, loop(1, 1), loop(1, 1), end), 3, api.ErrLoop)
	want(t, code(stay, stay, stay, loop(2, 1), loop(2, 1), end), 4, api.ErrLoop)
	want(t, code(stay, stay, stay, loop(3, 1), stay, loop(4, 1), end), 5, api.ErrLoop)
	want(t, code(stay, stay, loop(2, 1), stay, loop(2, 1), end), 4, api.ErrLoop)
	want(t, code(stay, stay, loop(2, 1), stay, loop(1, 1), end), 0, api.OK)
	want(t, code(stay, stay, loop(2, 1), stay, loop(4, 1), end), 0, api.OK)
	want(t, code(stay, loop(1, 1), loop(1, 1), loop(1, 1), end), 2, api.ErrLoop)
	want(t, code(stay, loop(1, 1), stay, loop(1, 1), stay, loop(2, 1), end), 5, api.ErrLoop)
	want(t, code(stay, loop(1, 1), stay, stay, stay, loop(1, 1), loop(5, 1), end), 6, api.ErrLoop)
	want(t, joined(stays(32), code(loop(32, 1)), stays(29), code(loop(31, 1), end)), 62, api.ErrLoop)
	want(t, joined(stays(32), code(loop(32, 1)), stays(29), code(loop(29, 1), end)), 0, api.OK)
	want(t, joined(stays(31), code(loop(31, 1)), stays(30), code(loop(31, 1), end)), 62, api.ErrLoop)
	want(t, joined(stays(31), code(loop(31, 1)), stays(30), code(loop(30, 1), end)), 0, api.OK)
}

func TestJumpsIntoBodies(t *testing.T) {
	for _, j := range []func(int) api.Inst{jump, jeq} {
		lead := func(from, to int) []api.Inst {
			c := code(stay, stay, stay, stay, stay, loop(3, 1), stay, end)
			c[from] = j(to - from - 1)
			return c
		}
		for from := range 7 {
			for to := from + 1; to < 8; to++ {
				at, e := 0, api.OK
				if from < 2 && to > 2 && to <= 5 {
					at, e = from, api.ErrLoop
				}
				if from != 5 {
					want(t, lead(from, to), at, e)
				}
			}
		}
		want(t, code(j(1), stay, loop(1, 1), end), 0, api.ErrLoop)
		want(t, code(j(0), stay, loop(1, 1), end), 0, api.OK)
		want(t, code(j(2), stay, loop(1, 1), end), 0, api.OK)
		want(t, code(j(1), stay, loop(2, 1), end), 0, api.OK)
	}
}

func TestJumpsFromOuterBodies(t *testing.T) {
	for _, j := range []func(int) api.Inst{jump, jeq} {
		outer := func(d int) []api.Inst {
			return code(stay, j(d), stay, stay, stay, loop(2, 1), stay, loop(6, 1), end)
		}
		for d, e := range []api.Errno{api.OK, api.OK, api.ErrLoop, api.ErrLoop, api.OK, api.OK, api.OK} {
			at := 0
			if e != api.OK {
				at = 1
			}
			want(t, outer(d), at, e)
		}
		want(t, code(stay, stay, j(1), loop(2, 1), stay, loop(4, 1), end), 0, api.OK)
		want(t, code(stay, loop(1, 1), j(1), stay, loop(1, 1), end), 2, api.ErrLoop)
		want(t, code(stay, j(3), loop(2, 1), j(1), stay, loop(1, 1), end), 1, api.ErrLoop)
		want(t, code(j(2), stay, stay, loop(2, 1), loop(3, 1), end), 0, api.ErrLoop)
		want(t, code(j(3), stay, stay, loop(2, 1), loop(3, 1), end), 0, api.ErrLoop)
		want(t, code(j(3), stay, stay, loop(2, 1), loop(4, 1), end), 0, api.OK)
		want(t, code(j(2), stay, stay, loop(2, 1), loop(4, 1), end), 0, api.ErrLoop)
	}
}

// A loop behind a body that leads into its midst crosses it, and is told as that ahead of any jump.
func TestLoopsFromBehind(t *testing.T) {
	want(t, code(stay, stay, loop(2, 1), stay, loop(2, 1), end), 4, api.ErrLoop)
	want(t, code(stay, stay, loop(2, 1), stay, loop(3, 1), end), 4, api.ErrLoop)
	want(t, code(stay, stay, loop(2, 1), stay, loop(4, 1), end), 0, api.OK)
}

// Several errors in one code: the first in the chapter's order is told, with its place.
func TestFirstError(t *testing.T) {
	want(t, joined(code(wrong), stays(64)), 0, api.ErrLong)
	want(t, code(end, jump(9), wrong, stay), 1, api.ErrFlow)
	want(t, code(end, wrong, jump(9), stay), 1, api.ErrForm)
	want(t, code(stay, stay, jump(9), jump(9), stay), 2, api.ErrFlow)
	want(t, code(stay, stay, stay, wrong), 3, api.ErrForm)
	want(t, code(stay, stay, stay, jeq(0)), 3, api.ErrFlow)
	want(t, code(stay, stay, loop(1, 1), loop(1, 1), stay), 4, api.ErrEnd)
	want(t, code(jump(1), stay, loop(1, 255), loop(1, 1), stay), 4, api.ErrEnd)
	want(t, code(stay, stay, loop(1, 1), loop(1, 1), wrong, end), 4, api.ErrForm)
	want(t, code(jump(1), stay, loop(1, 255), loop(1, 255), end), 3, api.ErrLoop)
	want(t, code(jump(1), stay, loop(1, 255), stay, loop(1, 255), end), 0, api.ErrLoop)
	want(t, code(stay, jump(1), stay, loop(1, 255), end), 1, api.ErrLoop)
	want(t, code(stay, jump(0), stay, loop(1, 255), end), 0, api.ErrCost)
	want(t, code(stay, jump(4), jump(1), stay, loop(1, 255), stay, loop(1, 1), end), 1, api.ErrLoop)
	want(t, code(stay, jump(3), jump(1), stay, loop(1, 255), stay, loop(1, 1), end), 2, api.ErrLoop)
	want(t, code(stay, loop(2, 1), loop(2, 1), end), 1, api.ErrFlow)
	want(t, code(stay, jump(2), stay, stay, loop(1, 1), loop(1, 1), loop(1, 1), end), 5, api.ErrLoop)
}

func TestErrorsInOtherCalls(t *testing.T) {
	for _, c := range [][]api.Inst{
		nil, stays(65), code(wrong), code(stay), code(jump(1), end),
		code(stay, stay, loop(1, 1), loop(1, 1), end), code(jump(1), stay, loop(1, 1), end), code(stay, loop(1, 255), end),
	} {
		_, e := flow.Check(c)
		if e == api.OK {
			t.Fatalf("P7.1: %v is taken", c)
		}
		holdNone(t, c, e)
		for _, at := range ats(len(c)) {
			holdAt(t, c, at, e)
		}
	}
}

func TestPlacesThatAreNone(t *testing.T) {
	for _, c := range [][]api.Inst{code(end), code(stay, end), code(stay, loop(1, 1), end), joined(stays(63), code(end))} {
		for at := -70; at < 140; at++ {
			holdAt(t, c, at, api.OK)
		}
		for _, at := range ats(len(c)) {
			holdAt(t, c, at, api.OK)
		}
	}
	if n, e := flow.Next(code(end), -1); len(n) != 0 || e != api.ErrArg {
		t.Errorf("P7.2: Next at -1: %v, %d", n, e)
	}
	if n, e := flow.Around(code(stay, loop(1, 1), end), 3); len(n) != 0 || e != api.ErrArg {
		t.Errorf("P7.2: Around 3: %v, %d", n, e)
	}
	if n, e := flow.Next(code(wrong), -1); len(n) != 0 || e != api.ErrForm {
		t.Errorf("P7.2: Next at -1 of a wrong code: %v, %d", n, e)
	}
}

func TestNext(t *testing.T) {
	for _, i := range ofEach() {
		c := code(stay, i, stay, stay, end)
		next, e := flow.Next(c, 1)
		switch i.Op {
		case api.OpExit:
			wantInts(t, "P7.3: Next of exit", next, e)
		case api.OpLoop:
			wantInts(t, "P7.3: Next of loop", next, e, 0, 2)
		default:
			wantInts(t, "P7.3: Next of "+ops.Name(i.Op), next, e, 2)
		}
		if _, leads := target(i, 1); leads && i.Op != api.OpLoop {
			c[1].D = 2
			next, e = flow.Next(c, 1)
			if goesOn(i) {
				wantInts(t, "P7.3: Next of "+ops.Name(i.Op), next, e, 2, 4)
			} else {
				wantInts(t, "P7.3: Next of "+ops.Name(i.Op), next, e, 4)
			}
		}
	}
}

func TestCosts(t *testing.T) {
	for _, c := range []struct {
		code []api.Inst
		cost int
	}{
		{code(end), 1},
		{joined(stays(63), code(end)), 64},
		{code(stay, loop(1, 126), end), 255},
		{code(stay, stay, loop(1, 126), end), 256},
		{code(stay, stay, stay, loop(1, 126), end), 257},
		{code(stay, loop(1, 127), end), 257},
		{code(stay, stay, loop(2, 83), end), 253},
		{code(stay, stay, loop(2, 84), end), 256},
		{code(stay, stay, loop(2, 84), stay, end), 257},
		{code(stay, loop(1, 3), loop(2, 15), end), 64 + 64 + 16 + 1},
		{code(stay, loop(1, 6), loop(2, 15), stay, end), 112 + 112 + 16 + 2},
		{code(stay, loop(1, 6), loop(2, 16), end), 119 + 119 + 17 + 1},
		{code(stay, loop(1, 6), loop(2, 16), stay, end), 119 + 119 + 17 + 2},
		{code(stay, loop(1, 6), loop(2, 16), end, end), 119 + 119 + 17 + 2},
		{code(stay, loop(1, 62), stay, loop(1, 62), end), 253},
		{code(stay, loop(1, 62), stay, loop(1, 62), end, end, end, end), 256},
		{code(stay, loop(1, 62), stay, loop(1, 63), end, end, end), 257},
		{code(stay, loop(1, 255), end), 513},
		{joined(stays(62), code(loop(62, 3), end)), 63*4 + 1},
		{joined(stays(62), code(loop(62, 4), end)), 63*5 + 1},
	} {
		holdCost(t, c.code, c.cost)
	}
}

func holdCost(t *testing.T, c []api.Inst, cost int) {
	t.Helper()
	e, n := api.OK, cost
	if cost > 256 {
		e, n = api.ErrCost, 0
	}
	want(t, c, 0, e)
	if got, gotE := flow.Cost(c); got != n || gotE != e {
		t.Errorf("P7.4: %v: Cost %d, %d; not %d, %d", c, got, gotE, n, e)
	}
}

// Loops in one another whose product is beyond what 8, 16, 32 and 64 bits hold, and comes to 0 or to little there.
func TestCostsFarBeyond(t *testing.T) {
	for _, bound := range []int{1, 2, 3, 7, 15, 16, 63, 127, 128, 254, 255} {
		for depth := 1; depth <= 62; depth++ {
			c := code(stay)
			for d := 1; d <= depth; d++ {
				c = append(c, loop(d, bound))
			}
			c = append(c, end)
			e := api.OK
			if toldCost(c).Cmp(big.NewInt(256)) > 0 {
				e = api.ErrCost
			}
			want(t, c, 0, e)
		}
	}
}

// way is where a way through a code stands, and how often each of its loops has led back since it last went on.
type way struct {
	at   int
	back [6]int
}

// longest is how many steps the longest way from w on takes; ok is false where a way comes back to where it was, and so never ends.
func longest(t *testing.T, code []api.Inst, w way, seen map[way]int) (int, bool) {
	t.Helper()
	if n, ok := seen[w]; ok {
		return n, n > 0
	}
	seen[w] = 0
	next, e := flow.Next(code, w.at)
	if e != api.OK {
		t.Fatalf("P7.5: %v: Next at %d: %d", code, w.at, e)
	}
	most := 0
	for _, to := range next {
		v, ok := led(code, w, to)
		if !ok {
			continue
		}
		n, ends := longest(t, code, v, seen)
		if !ends {
			return 0, false
		}
		most = max(most, n)
	}
	seen[w] = most + 1
	return most + 1, true
}

// led is the way once it has come from its place to another, and whether its loop leads back once more.
func led(code []api.Inst, w way, to int) (way, bool) {
	from := w.at
	w.at = to
	if code[from].Op != api.OpLoop {
		return w, true
	}
	n := slices.IndexFunc(toldLoops(code), func(l api.Loop) bool { return l.At == from })
	if to > from {
		w.back[n] = 0
		return w, true
	}
	w.back[n]++
	return w, w.back[n] <= int(code[from].Imm)
}

// holdEnds: the longest way through the code takes at most its cost, and just that where nothing jumps and nothing but the last place ends it.
func holdEnds(t *testing.T, code []api.Inst) {
	t.Helper()
	cost, e := flow.Cost(code)
	if e != api.OK || len(toldLoops(code)) > 6 {
		return
	}
	n, ends := longest(t, code, way{}, map[way]int{})
	if !ends || n > cost {
		t.Fatalf("P7.5: %v: %d steps, ends %v; cost %d", code, n, ends, cost)
	}
	straight := !slices.ContainsFunc(code[:len(code)-1], func(i api.Inst) bool { return i.Op != api.OpSet && i.Op != api.OpLoop })
	if straight && n != cost {
		t.Fatalf("P7.5: %v: %d steps; cost %d", code, n, cost)
	}
}

// each calls do with every code of n instructions of a kind that is in the list.
func each(n int, kinds []api.Inst, do func([]api.Inst)) {
	c := make([]api.Inst, n)
	var fill func(int)
	fill = func(at int) {
		if at == n {
			do(c)
			return
		}
		for _, k := range kinds {
			c[at] = k
			fill(at + 1)
		}
	}
	fill(0)
}

// Every short code of a few kinds of instructions, against what is told and as to how long its ways are.
func TestEveryShortCode(t *testing.T) {
	many := code(stay, end, wrong, jump(0), jump(1), jump(2), jeq(0), jeq(1), loop(1, 1), loop(2, 2), loop(3, 1), loop(1, 255))
	some := code(stay, end, jump(1), jeq(0), loop(1, 1), loop(2, 1), loop(3, 1))
	few := code(stay, end, jeq(1), jeq(2), loop(1, 2), loop(2, 1))
	for n, kinds := range [][]api.Inst{many, many, many, many, some, few} {
		each(n, kinds, func(c []api.Inst) {
			if holdAll(t, c) == api.OK {
				holdEnds(t, c)
			}
		})
	}
}

// someCode is a code that is often good: mostly short loops with small bounds, few of what isn't right.
func someCode(r *rand.Rand) []api.Inst {
	n := 1 + r.Intn(64)>>r.Intn(5)
	c := make([]api.Inst, n)
	far, bound := 1+r.Intn(6), 1+r.Intn(5)
	if r.Intn(8) == 0 {
		bound = 255
	}
	loops := 1 + r.Intn(12)
	for at := range c {
		c[at] = someInst(r, far, bound, loops)
	}
	if r.Intn(16) > 0 {
		c[n-1] = end
	}
	return c
}

func someInst(r *rand.Rand, far, bound, loops int) api.Inst {
	switch k := r.Intn(30); {
	case k < loops/2:
		return loop(1+r.Intn(far), 1+r.Intn(bound))
	case k < 8:
		i := jeq(r.Intn(far))
		i.Op += api.Op(r.Intn(4))
		return i
	case k < 9:
		return jump(r.Intn(far))
	case k < 10:
		return end
	case k == 10 && r.Intn(20) == 0:
		all := wrongs()
		return all[r.Intn(len(all))]
	case k == 11 && r.Intn(8) == 0:
		return loop(1+r.Intn(63), 1+r.Intn(255))
	case k == 12 && r.Intn(8) == 0:
		return jump(r.Intn(64))
	}
	return stay
}

func TestManyCodes(t *testing.T) {
	r := rand.New(rand.NewSource(7))
	told := map[api.Errno]int{}
	deep := 0
	for range 12000 {
		c := someCode(r)
		e := holdAll(t, c)
		told[e]++
		if e == api.OK {
			holdEnds(t, c)
			deep = max(deep, len(toldLoops(c)))
		}
	}
	for _, e := range []api.Errno{api.OK, api.ErrForm, api.ErrFlow, api.ErrEnd, api.ErrLoop, api.ErrCost} {
		if told[e] < 100 {
			t.Errorf("only %d codes are told %d", told[e], e)
		}
	}
	if deep < 5 {
		t.Errorf("only %d loops in one good code", deep)
	}
}

// filled is what must be in the spare room behind a code that is handed in.
var filled = api.Inst{Op: 77, D: 7, A: 7, B: 7, Imm: 7}

// roomy is the code with spare room behind it, which is filled.
func roomy(c []api.Inst) []api.Inst {
	long := make([]api.Inst, len(c)+5)
	copy(long, c)
	for n := len(c); n < len(long); n++ {
		long[n] = filled
	}
	return long[:len(c)]
}

func memoryCodes() [][]api.Inst {
	return [][]api.Inst{
		{}, stays(3), stays(65), code(stay, wrong, end), code(stay, jump(5), end),
		code(end), code(stay, end), code(stay, loop(1, 2), loop(2, 3), jeq(1), stay, end),
		code(stay, stay, loop(1, 1), loop(1, 1), end), code(stay, loop(1, 255), end), joined(stays(63), code(end)),
	}
}

func TestHandedInStaysAsItWas(t *testing.T) {
	for _, c := range memoryCodes() {
		handed := roomy(c)
		flow.Check(handed)
		flow.Loops(handed)
		flow.Cost(handed)
		for at := -1; at <= len(c); at++ {
			flow.Next(handed, at)
			flow.Around(handed, at)
		}
		if !slices.Equal(handed, c) {
			t.Errorf("P7.6: %v became %v", c, handed)
		}
		for _, i := range handed[len(c):cap(handed)] {
			if i != filled {
				t.Errorf("P7.6: the spare room of %v holds %v", c, i)
			}
		}
	}
}

// What was answered earlier stays as it was when the code that was handed in and all later answers are written over, spare room included; and nothing of a code is remembered.
func TestAnswersAreNewMemory(t *testing.T) {
	c := code(stay, stay, loop(1, 2), loop(3, 3), jeq(1), stay, end)
	loops, _ := flow.Loops(c)
	next, _ := flow.Next(c, 3)
	around, _ := flow.Around(c, 1)
	for range 2 {
		l, _ := flow.Loops(c)
		n, _ := flow.Next(c, 3)
		a, _ := flow.Around(c, 1)
		for k := range l[:cap(l)] {
			l[:cap(l)][k] = api.Loop{Head: 9, At: 9, Bound: 9}
		}
		for k := range n[:cap(n)] {
			n[:cap(n)][k] = 99
		}
		for k := range a[:cap(a)] {
			a[:cap(a)][k] = 99
		}
	}
	for n := range c {
		c[n] = end
	}
	if !slices.Equal(loops, []api.Loop{{Head: 1, At: 2, Bound: 2}, {Head: 0, At: 3, Bound: 3}}) {
		t.Errorf("P7.6: Loops became %v", loops)
	}
	wantInts(t, "P7.6: Next became", next, api.OK, 0, 4)
	wantInts(t, "P7.6: Around became", around, api.OK, 2, 3)
	holdAll(t, c)
}

// The same calls in any order answer the same.
func TestNothingIsKept(t *testing.T) {
	codes := memoryCodes()
	for range 3 {
		for n := range codes {
			holdAll(t, codes[len(codes)-1-n])
			holdAll(t, codes[n])
		}
	}
}

// read is a code out of bytes, four for an instruction.
func read(b []byte) []api.Inst {
	var c []api.Inst
	for ; len(b) >= 4 && len(c) < 70; b = b[4:] {
		i := api.Inst{Op: api.Op(b[0] % 26), D: int(int8(b[1])), A: int(b[2] % 9), Imm: int64(b[3])}
		switch bits.OnesCount8(b[2]) {
		case 0, 1:
			i.B = api.Immediate
		case 8:
			i.B = int(b[3])
		}
		if i.Op > 22 {
			i = loop(int(b[1]%8), int(b[3]%4))
		}
		c = append(c, i)
	}
	return c
}

func FuzzCheck(f *testing.F) {
	f.Add([]byte{}, 0)
	f.Add([]byte{22, 0, 1, 0}, 0)
	f.Add([]byte{0, 1, 0, 9, 20, 1, 1, 5, 22, 0, 1, 0}, 1)
	f.Add([]byte{0, 1, 0, 9, 24, 1, 1, 1, 24, 2, 1, 1, 16, 0, 0, 3, 22, 0, 1, 0}, 2)
	f.Add([]byte{15, 1, 0, 0, 0, 1, 0, 9, 24, 1, 1, 1, 22, 0, 1, 0}, -1)
	f.Fuzz(func(t *testing.T, b []byte, at int) {
		c := read(b)
		e := holdAll(t, c)
		holdAt(t, c, at, e)
		if e == api.OK {
			holdEnds(t, c)
		}
	})
}
