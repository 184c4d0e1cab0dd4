package judge_test

import (
	"fmt"
	"math"
	"slices"
	"strings"
	"testing"

	"tappet/api"
	"tappet/judge"
	"tappet/lines"
	"tappet/sigs"
)

// code is the instructions of lines with commas between them.
func code(t *testing.T, text string) []api.Inst {
	t.Helper()
	is, n, e := lines.Parse(strings.ReplaceAll(text, ", ", "\n") + "\n")
	if e != api.OK {
		t.Fatalf("%q: line %d: %d", text, n, e)
	}
	return is
}

// module is one with two maps, so that its map numbers 0 and 1 are there and 2 and 3 aren't.
func module(t *testing.T, text string) api.Module {
	t.Helper()
	return api.Module{Maps: []int{2, 0}, Code: code(t, text)}
}

// want holds Judge against a place and an error that are written out, and both calls against what is told.
func want(t *testing.T, text string, at int, e api.Errno) {
	t.Helper()
	m := module(t, text)
	if gotAt, got := judge.Judge(m); gotAt != at || got != e {
		t.Errorf("P9.1: %q: %d, %d; not %d, %d", text, gotAt, got, at, e)
	}
	hold(t, m)
}

// tell is what is known at a place in few words: "-" where no way leads, else each register that isn't Unset.
func tell(ts []api.Type) string {
	if len(ts) == 0 {
		return "-"
	}
	var words []string
	for r, k := range ts {
		switch {
		case k == api.Type{}:
		case k == num(0, most):
			words = append(words, fmt.Sprintf("r%d full", r))
		case k == num(k.Span.Lo, k.Span.Lo):
			words = append(words, fmt.Sprintf("r%d %d", r, k.Span.Lo))
		case k == num(k.Span.Lo, k.Span.Hi):
			words = append(words, fmt.Sprintf("r%d %d..%d", r, k.Span.Lo, k.Span.Hi))
		case k == handle(k.Map):
			words = append(words, fmt.Sprintf("r%d map %d", r, k.Map))
		default:
			words = append(words, fmt.Sprintf("r%d %+v", r, k))
		}
	}
	return fmt.Sprint(len(ts)) + ": " + strings.Join(words, ", ")
}

// wantKnown holds Types at one place against what is written out, and both calls against what is told.
func wantKnown(t *testing.T, text string, at int, known string) {
	t.Helper()
	m := module(t, text)
	types, _, e := hold(t, m)
	if e != api.OK {
		t.Errorf("P9.2: %q: %d", text, e)
		return
	}
	if known != "-" {
		known = "8: " + known
	}
	if got := tell(types[at]); got != known {
		t.Errorf("P9.2: %q: at %d %q, not %q", text, at, got, known)
	}
}

func TestExamples(t *testing.T) {
	for _, c := range []struct {
		text string
		at   int
		e    api.Errno
	}{
		{"set r0 7, exit r0", 0, api.OK},
		{"exit r0", 0, api.ErrType},
		{"field r1 0, load r0 r1, exit r0", 1, api.ErrBound},
		{"field r1 0, jlt r1 16 2, set r0 0, exit r0, load r0 r1, exit r0", 0, api.OK},
		{"field r1 0, and r1 r1 15, load r0 r1, exit r0", 0, api.OK},
		{"map r1 0, field r2 0, call 0, exit r0", 0, api.OK},
		{"map r1 1, field r2 0, call 0, exit r0", 0, api.ErrBound},
		{"map r1 0, exit r1", 1, api.ErrType},
		{"set r1 5, sub r1 r1 1, loop r1 1 9, exit r1", 0, api.OK},
		{"set r1 5, map r1 0, set r2 1, loop r2 2 9, exit r2", 3, api.ErrType},
		{"set r1 5, jeq r1 5 1, load r0 r2, exit r1", 0, api.OK},
	} {
		m := api.Module{Maps: []int{2}, Code: code(t, c.text)}
		if at, e := judge.Judge(m); at != c.at || e != c.e {
			t.Errorf("P9.1: %q: %d, %d; not %d, %d", c.text, at, e, c.at, c.e)
		}
		hold(t, m)
	}
	wantKnown(t, "set r0 7, exit r0", 0, "")
	wantKnown(t, "set r0 7, exit r0", 1, "r0 7")
	wantKnown(t, "field r1 0, jlt r1 16 2, set r0 0, exit r0, load r0 r1, exit r0", 4, "r1 0..15")
	for at := 1; at <= 3; at++ {
		wantKnown(t, "set r1 5, sub r1 r1 1, loop r1 1 9, exit r1", at, "r1 full")
	}
	wantKnown(t, "set r1 5, jeq r1 5 1, load r0 r2, exit r1", 2, "-")
	wantKnown(t, "set r1 5, jeq r1 5 1, load r0 r2, exit r1", 3, "r1 5")
}

// wantMaps holds both calls at Maps with some codes, good ones and ones that are refused, against whether they are those of a well-formed module.
func wantMaps(t *testing.T, fit bool, maps ...int) {
	t.Helper()
	for _, c := range [][]api.Inst{
		code(t, "set r0 7, exit r0"), code(t, "exit r0"), code(t, "set r0 7"), code(t, "map r1 3, exit r1"), nil,
		make([]api.Inst, 65), {{Op: 23}}, {{Op: -1}},
	} {
		m := api.Module{Maps: maps, Code: c}
		at, e := judge.Judge(m)
		if !fit && (at != 0 || e != api.ErrArg) || fit && e == api.ErrArg {
			t.Errorf("P9.1: %s: %d, %d", show(m), at, e)
		}
		if ts, e := judge.Types(m); !fit && (len(ts) != 0 || e != api.ErrArg) || fit && e == api.ErrArg {
			t.Errorf("P9.2: %s: %v, %d", show(m), ts, e)
		}
		hold(t, m)
	}
}

func TestMaps(t *testing.T) {
	wantMaps(t, true)
	for n := -3; n <= 9; n++ {
		wantMaps(t, n >= 0 && n <= 3, n)
	}
	for _, n := range []int{math.MinInt, math.MaxInt, math.MinInt32, math.MaxInt32, 1 << 8, 1<<8 + 1, 1 << 32, 1<<32 + 3, -1 << 32, -4} {
		wantMaps(t, false, n)
		wantMaps(t, false, 0, n)
		wantMaps(t, false, n, 3)
		wantMaps(t, false, 3, 1, 2, n)
	}
	for a := range 4 {
		for b := range 4 {
			wantMaps(t, a != b, a, b)
			wantMaps(t, a != b && a != 2 && b != 2, a, 2, b)
			for c := range 4 {
				wantMaps(t, a != b && a != c && b != c && a != 1 && b != 1 && c != 1, a, b, 1, c)
			}
		}
	}
	wantMaps(t, true, 0, 1, 2, 3)
	wantMaps(t, true, 3, 2, 1, 0)
	wantMaps(t, false, 0, 1, 2, 3, 0)
	wantMaps(t, false, 0, 1, 2, 3, 4)
	wantMaps(t, false, 0, 0, 0, 0, 0)
	wantMaps(t, false, make([]int, 1<<16)...)
}

// TestMapNumbers: every map number with every number of Maps, whichever they are.
func TestMapNumbers(t *testing.T) {
	for many := range 5 {
		for n := range 4 {
			for _, all := range [][]int{{0, 1, 2, 3}, {3, 2, 1, 0}, {2, 0, 3, 1}} {
				m := api.Module{Maps: all[:many], Code: []api.Inst{{Op: api.OpSet, D: 1, B: 8}, {Op: api.OpMap, D: 5, Imm: int64(n)}, {Op: api.OpExit, A: 1}}}
				at, e := judge.Judge(m)
				if n < many && (at != 0 || e != api.OK) || n >= many && (at != 1 || e != api.ErrBound) {
					t.Errorf("P9.1: %s: %d, %d", show(m), at, e)
				}
				types, _, e := hold(t, m)
				if e == api.OK && types[2][5] != handle(n) {
					t.Errorf("P9.2: %s: %v", show(m), types)
				}
			}
		}
	}
}

// TestFlow: codes that layer 7's Check doesn't take are refused by its place and error, ahead of all that is asked.
func TestFlow(t *testing.T) {
	set := api.Inst{Op: api.OpSet, D: 1, B: 8, Imm: 1}
	end := api.Inst{Op: api.OpExit, A: 1}
	vain := api.Inst{Op: api.OpExit, A: 5}
	for _, c := range []struct {
		code []api.Inst
		at   int
		e    api.Errno
	}{
		{nil, 0, api.ErrShort},
		{[]api.Inst{}, 0, api.ErrShort},
		{slices.Repeat([]api.Inst{end}, 65), 0, api.ErrLong},
		{slices.Repeat([]api.Inst{vain}, 1<<16), 0, api.ErrLong},
		{[]api.Inst{vain, {Op: 23}}, 1, api.ErrForm},
		{[]api.Inst{set, end, {Op: math.MinInt}}, 2, api.ErrForm},
		{[]api.Inst{vain, {Op: api.OpSet, D: 8}, end}, 1, api.ErrForm},
		{[]api.Inst{vain, {Op: api.OpCall, Imm: 7}, end}, 1, api.ErrForm},
		{[]api.Inst{vain, {Op: api.OpMap, Imm: 4}, end}, 1, api.ErrForm},
		{[]api.Inst{vain, {Op: api.OpJump, D: 1}, end}, 1, api.ErrFlow},
		{[]api.Inst{vain, {Op: api.OpLoop, D: 2, A: 1, Imm: 1}, end}, 1, api.ErrFlow},
		{[]api.Inst{vain, set}, 1, api.ErrEnd},
		{[]api.Inst{set}, 0, api.ErrEnd},
		{code(t, "exit r5, set r1 1, loop r1 1 1, loop r1 1 1, exit r1"), 3, api.ErrLoop},
		{code(t, "jump 1, set r1 9, set r1 8, loop r1 2 1, exit r5"), 0, api.ErrLoop},
		{code(t, "exit r5, loop r1 1 127, exit r1"), 0, api.ErrCost},
	} {
		m := api.Module{Maps: []int{1}, Code: c.code}
		if at, e := judge.Judge(m); at != c.at || e != c.e {
			t.Errorf("P9.1: %s: %d, %d; not %d, %d", show(m), at, e, c.at, c.e)
		}
		if ts, e := judge.Types(m); len(ts) != 0 || e != c.e {
			t.Errorf("P9.2: %s: %v, %d; not %d", show(m), ts, e, c.e)
		}
		hold(t, m)
	}
	// As long, and as costly, as may be.
	want(t, strings.Repeat("set r1 9, ", 63)+"exit r1", 0, api.OK)
	want(t, "set r1 9, loop r1 1 126, exit r1", 0, api.OK)
	want(t, "set r1 9, set r2 1, loop r1 2 83, exit r1", 0, api.OK)
}

// kinds are lines that leave in a register of the number n what isn't known, a number within {0 15}, a handle.
func kinds(n int) []string {
	return []string{"", fmt.Sprintf("set r%d 7, ", n), fmt.Sprintf("map r%d 1, ", n)}
}

// TestReads: each operation with each register that it reads Unset, Num and Handle, with a register as its source, with that of A and with an immediate.
func TestReads(t *testing.T) {
	for a, first := range kinds(1) {
		for b, second := range append(kinds(2), "", "") {
			source := []string{"r2", "r2", "r2", "3", "r1"}[b]
			ok := []bool{false, true, false, true, a == 1}[b] // is the source a number?
			told := []bool{false, true, true, true, a != 0}[b]
			begin := "set r7 0, " + first + second
			wantAsked(t, begin, "set r3 "+source, told)
			wantAsked(t, begin, "load r3 "+source, ok)
			wantAsked(t, begin, "store r1 "+source, ok && a == 1)
			for _, name := range []string{"add", "sub", "mul", "div", "rem", "and", "or", "xor", "shl", "shr"} {
				wantAsked(t, begin, name+" r3 r1 "+source, ok && a == 1)
				wantAsked(t, begin, name+" r1 r1 "+source, ok && a == 1)
			}
			for _, name := range []string{"jeq", "jne", "jlt", "jge"} {
				wantAsked(t, begin, name+" r1 "+source+" 0", ok && a == 1)
				wantAsked(t, begin, name+" r1 "+source+" 1", ok && a == 1)
			}
			wantAsked(t, begin, "exit r1", a == 1)
			wantAsked(t, begin, "loop r1 1 1", a == 1)
			wantAsked(t, begin, "field r3 1", true)
			wantAsked(t, begin, "map r3 1", true)
			wantAsked(t, begin, "jump 0", true)
		}
	}
}

// wantAsked: is the line, behind those that begin, taken? Else ErrType at its place.
func wantAsked(t *testing.T, begin, line string, taken bool) {
	t.Helper()
	text := begin + line + ", exit r7, exit r7"
	if taken {
		want(t, text, 0, api.OK)
		return
	}
	want(t, text, strings.Count(begin, ","), api.ErrType)
}

// TestEveryRegister: each of the 8 by itself is written and read as its number says.
func TestEveryRegister(t *testing.T) {
	for r := range 8 {
		wantKnown(t, fmt.Sprintf("set r%d 7, exit r%d", r, r), 1, fmt.Sprintf("r%d 7", r))
		wantKnown(t, fmt.Sprintf("set r%d 7, map r%d 1, exit r%d", r, (r+1)%8, r), 2, joinedWords(r, "7", (r+1)%8, "map 1"))
		for other := range 8 {
			at, e := 1, api.ErrType
			if other == r {
				at, e = 0, api.OK
			}
			want(t, fmt.Sprintf("set r%d 7, exit r%d", r, other), at, e)
			want(t, fmt.Sprintf("set r%d 7, store r%d 1, exit r%d", r, other, r), at, e)
			want(t, fmt.Sprintf("field r%d 0, set r%d r%d, exit r%d", r, r, other, r), at, e)
		}
	}
}

// joinedWords are two registers' words, the lower register first.
func joinedWords(a int, is string, b int, are string) string {
	x, y := fmt.Sprintf("r%d %s", a, is), fmt.Sprintf("r%d %s", b, are)
	return min(x, y) + ", " + max(x, y)
}

// within are lines that leave in r1 a number from lo to hi, as the chapter's jumps tell it.
func within(lo, hi uint64) string {
	return fmt.Sprintf("set r0 0, field r1 0, jge r1 %d 1, exit r0, jge r1 %d 1, jump 1, exit r0, ", int64(lo), int64(hi+1))
}

// TestWords: load, store and mark with spans that end at 15, at 16, at the greatest number, and single ones.
func TestWords(t *testing.T) {
	for _, c := range []struct {
		lo, hi uint64
		e      api.Errno
	}{
		{0, 15, api.OK}, {1, 14, api.OK}, {15, 15, api.OK}, {0, 1, api.OK}, {14, 15, api.OK},
		{0, 16, api.ErrBound}, {15, 16, api.ErrBound}, {16, 16, api.ErrBound}, {16, 17, api.ErrBound}, {0, 1 << 32, api.ErrBound},
		{1 << 32, 1<<32 + 3, api.ErrBound}, {0, most - 1, api.ErrBound}, {1 << 63, 1<<63 + 3, api.ErrBound},
	} {
		begin := within(c.lo, c.hi)
		for _, line := range []string{"load r3 r1", "store r0 r1", "call 5"} {
			at := 7
			if c.e == api.OK {
				at = 0
			}
			want(t, begin+line+", exit r0", at, c.e)
		}
	}
	for _, c := range []struct {
		n string
		e api.Errno
	}{{"0", api.OK}, {"15", api.OK}, {"16", api.ErrBound}, {"-1", api.ErrBound}, {"-16", api.ErrBound}, {"4294967296", api.ErrBound}, {"-9223372036854775808", api.ErrBound}, {"9223372036854775807", api.ErrBound}} {
		for _, line := range []string{"load r3 r1", "load r3 " + c.n, "store r1 r1", "store r1 " + c.n, "call 5"} {
			at := 1
			if c.e == api.OK {
				at = 0
			}
			want(t, "set r1 "+c.n+", "+line+", exit r1", at, c.e)
		}
	}
	for _, begin := range []string{"field r1 0", "field r1 1", "field r1 0, jge r1 3 1, exit r1", "set r1 3, load r1 r1"} {
		for _, line := range []string{"load r3 r1", "store r1 r1", "call 5"} {
			want(t, begin+", "+line+", exit r1", strings.Count(begin, ",")+1, api.ErrBound)
		}
	}
}

// TestLeaves: what each operation leaves.
func TestLeaves(t *testing.T) {
	for _, c := range []struct{ text, known string }{
		{"set r3 -1", "r3 18446744073709551615"},
		{"set r3 -9223372036854775808", "r3 9223372036854775808"},
		{"set r2 4, set r3 r2", "r2 4, r3 4"},
		{"map r2 1, set r3 r2", "r2 map 1, r3 map 1"},
		{"map r3 0, set r3 r3", "r3 map 0"},
		{"map r3 0, set r3 9", "r3 9"},
		{"set r3 9, map r3 1", "r3 map 1"},
		{"map r3 1, map r3 0", "r3 map 0"},
		{"map r3 1, field r3 0", "r3 full"},
		{"set r3 4, load r3 r3", "r3 full"},
		{"load r3 15", "r3 full"},
		{"set r3 4, store r3 0", "r3 4"},
		{"set r3 4, set r2 15, store r3 r2", "r2 15, r3 4"},
		{"field r3 0", "r3 full"},
		{"field r3 1", "r3 full"},
		{"map r3 1", "r3 map 1"},
		{"set r3 6, jump 0", "r3 6"},
		{"set r2 20, set r3 3, add r4 r2 r3", "r2 20, r3 3, r4 23"},
		{"set r2 20, sub r2 r2 21", "r2 18446744073709551615"},
		{"set r2 20, set r3 3, sub r4 r2 r3", "r2 20, r3 3, r4 17"},
		{"set r2 20, set r3 3, sub r4 r3 r2", "r2 20, r3 3, r4 18446744073709551599"},
		{"set r2 20, mul r4 r2 3", "r2 20, r4 60"},
		{"set r2 20, div r4 r2 3", "r2 20, r4 6"},
		{"set r2 20, div r4 r2 0", "r2 20, r4 0"},
		{"set r2 20, rem r4 r2 3", "r2 20, r4 2"},
		{"set r2 20, rem r4 r2 0", "r2 20, r4 20"},
		{"set r2 20, and r4 r2 6", "r2 20, r4 4"},
		{"set r2 20, or r4 r2 3", "r2 20, r4 23"},
		{"set r2 20, xor r4 r2 6", "r2 20, r4 18"},
		{"set r2 20, shl r4 r2 3", "r2 20, r4 160"},
		{"set r2 20, shl r4 r2 64", "r2 20, r4 0"},
		{"set r2 20, shr r4 r2 3", "r2 20, r4 2"},
		{"field r2 0, and r3 r2 15", "r2 full, r3 0..15"},
		{"field r2 0, rem r3 r2 100", "r2 full, r3 0..99"},
		{"field r2 0, rem r2 r2 100, add r2 r2 7", "r2 7..106"},
		{"field r2 0, shr r3 r2 60", "r2 full, r3 0..15"},
		{"field r2 0, div r3 r2 0", "r2 full, r3 full"},
		{"field r2 0, and r2 r2 8, or r3 r2 r2", "r2 0..8, r3 0..15"},
		{"field r2 0, xor r2 r2 r2", "r2 full"},
		{"field r2 0, sub r2 r2 r2", "r2 full"},
	} {
		n := strings.Count(c.text, ",") + 2
		wantKnown(t, c.text+", set r7 1, exit r7", n-1, c.known)
	}
}

// TestHelpers: each helper with all that it wants, with one register too little, and with each of its registers of another kind.
func TestHelpers(t *testing.T) {
	for h := range api.Helpers {
		args := sigs.Args(h)
		for n := range 27 {
			text, at, e := "set r7 1, ", 0, api.OK
			for k, kind := range []int{n % 3, n / 3 % 3, n / 9} {
				text += kinds(k + 1)[kind]
				if k < len(args) && kind != int(args[k].Kind) {
					e = api.ErrType
				}
			}
			if e != api.OK {
				at = strings.Count(text, ",")
			}
			want(t, fmt.Sprintf("%scall %d, exit r0", text, h), at, e)
		}
	}
	begin := "set r0 9, map r1 1, set r2 2, set r3 3, set r4 4, call "
	behind := ", r1 map 1, r2 2, r3 3, r4 4"
	for h, known := range []string{"r0 full", "r0 0..1", "r0 0..1", "r0 0..1", "r0 full"} {
		wantKnown(t, fmt.Sprintf("%s%d, exit r0", begin, h), 6, known+behind)
	}
	wantKnown(t, "set r1 15, call 5, exit r0", 2, "r0 full, r1 15")
	wantKnown(t, "set r1 16, call 6, exit r0", 2, "r0 0, r1 16")
	wantKnown(t, "field r1 0, call 6, load r2 r0, exit r0", 2, "r0 0, r1 full")
	wantKnown(t, "map r0 0, field r1 0, call 6, exit r0", 3, "r0 0, r1 full")
}

// TestConditions: what each way of a jump with a condition knows, and the ways that aren't gone.
func TestConditions(t *testing.T) {
	// At 8 the condition doesn't hold, at 9 it holds.
	begin := within(3, 9)
	for _, c := range []struct{ line, on, led string }{
		{"jlt r1 5 1", "5..9", "3..4"},
		{"jge r1 5 1", "3..4", "5..9"},
		{"jeq r1 5 1", "3..9", "5"},
		{"jne r1 5 1", "5", "3..9"},
		{"jeq r1 3 1", "4..9", "3"},
		{"jeq r1 9 1", "3..8", "9"},
		{"jne r1 3 1", "3", "4..9"},
		{"jne r1 9 1", "9", "3..8"},
		{"jlt r1 9 1", "9", "3..8"},
		{"jge r1 4 1", "3", "4..9"},
		{"jlt r1 3 1", "3..9", "-"},
		{"jlt r1 10 1", "-", "3..9"},
		{"jge r1 3 1", "-", "3..9"},
		{"jge r1 10 1", "3..9", "-"},
		{"jeq r1 2 1", "3..9", "-"},
		{"jeq r1 10 1", "3..9", "-"},
		{"jne r1 2 1", "-", "3..9"},
		{"jlt r1 0 1", "3..9", "-"},
		{"jge r1 0 1", "-", "3..9"},
		{"jlt r1 -1 1", "-", "3..9"},
		{"jeq r1 r1 1", "3..9", "3..9"},
		{"jlt r1 r1 1", "3..9", "3..9"},
		{"jge r1 r0 1", "-", "3..9"},
		{"jeq r1 r0 1", "3..9", "-"},
	} {
		text := begin + c.line + ", exit r0, exit r0"
		wantKnown(t, text, 7, "r0 0, r1 3..9")
		wantKnown(t, text, 8, behindZero(c.on))
		wantKnown(t, text, 9, behindZero(c.led))
	}
	// A source that is known within a span alone tells nothing, and nothing is told of it.
	wantKnown(t, begin+"and r2 r1 1, jlt r1 r2 1, exit r0, exit r0", 9, "r0 0, r1 3..9, r2 0..1")
	wantKnown(t, begin+"and r2 r1 1, jlt r1 r2 1, exit r0, exit r0", 10, "r0 0, r1 3..9, r2 0..1")
	wantKnown(t, begin+"set r2 5, jeq r2 r1 1, exit r0, exit r0", 10, "r0 0, r1 3..9, r2 5")
	// One register with itself, where it is single.
	wantKnown(t, "set r1 5, jeq r1 r1 1, exit r1, exit r1", 2, "-")
	wantKnown(t, "set r1 5, jne r1 r1 1, exit r1, exit r1", 3, "-")
	wantKnown(t, "set r1 5, jlt r1 r1 1, exit r1, exit r1", 3, "-")
	wantKnown(t, "set r1 5, jge r1 r1 1, exit r1, exit r1", 2, "-")
}

func behindZero(known string) string {
	if known == "-" {
		return known
	}
	return "r0 0, r1 " + known
}

// TestSamePlace: conditional jumps that lead to the place at which they go on.
func TestSamePlace(t *testing.T) {
	for _, name := range []string{"jeq", "jne", "jlt", "jge"} {
		for _, n := range []int{2, 3, 4, 5, 8, 9, 10} {
			wantKnown(t, fmt.Sprintf("%s%s r1 %d 0, exit r0", within(3, 9), name, n), 8, "r0 0, r1 3..9")
		}
		wantKnown(t, "set r1 5, "+name+" r1 5 0, exit r1", 2, "r1 5")
		wantKnown(t, "set r1 5, "+name+" r1 6 0, exit r1", 2, "r1 5")
		wantKnown(t, "set r1 5, "+name+" r1 4 0, exit r1", 2, "r1 5")
		wantKnown(t, "set r1 5, field r2 0, "+name+" r1 r2 0, exit r1", 3, "r1 5, r2 full")
		want(t, name+" r1 5 0, exit r1", 0, api.ErrType)
	}
}

// TestNoWay: places to which no way leads ask for nothing, whatever stands there.
func TestNoWay(t *testing.T) {
	for _, line := range []string{
		"set r3 r4", "add r3 r4 r5", "add r3 r1 r4", "load r3 r4", "load r3 16", "store r4 0", "store r1 16", "map r3 3", "jeq r4 1 0", "jlt r1 r4 0",
		"loop r4 1 1", "loop r1 1 1", "call 0", "call 1", "call 2", "call 3", "call 4", "call 5", "exit r4", "exit r1", "jump 0",
	} {
		for _, begin := range []string{"jump 2", "jeq r1 5 2", "jge r1 5 2", "jlt r1 6 2", "jne r1 4 2", "exit r1"} {
			text := "set r1 5, " + begin + ", set r6 1, " + line + ", exit r1"
			wantKnown(t, text, 1, "r1 5")
			wantKnown(t, text, 2, "-")
			wantKnown(t, text, 3, "-")
		}
		// Where a way leads there, it is refused, but for the few that ask for no more than there is.
		if strings.HasSuffix(line, "r1") || strings.HasPrefix(line, "jump") || strings.HasPrefix(line, "loop r1") || line == "call 5" {
			want(t, "set r1 5, jne r1 5 2, set r6 1, "+line+", exit r1", 0, api.OK)
			continue
		}
		if _, e := judge.Judge(module(t, "set r1 5, jne r1 5 2, set r6 1, "+line+", exit r1")); e == api.OK {
			t.Errorf("P9.1: %q is taken where a way leads", line)
		}
	}
	// What stands where no way leads leads nowhere: neither on nor to where it jumps.
	dead := "set r1 5, jump 3, set r1 9, jump 2, exit r2, exit r1, exit r2"
	wantKnown(t, dead, 5, "r1 5")
	wantKnown(t, dead, 6, "-")
	wantKnown(t, "set r1 5, exit r1, map r2 0, jeq r1 1 1, exit r2, exit r2", 5, "-")
	wantKnown(t, "set r1 5, jump 1, set r1 9, exit r1", 3, "r1 5")
}

// TestJoined: two ways that come to one place, with all that each may know of a register.
func TestJoined(t *testing.T) {
	for _, c := range []struct{ led, on, known string }{
		{"set r1 3", "set r1 9", "r1 3..9"},
		{"set r1 9", "set r1 3", "r1 3..9"},
		{"set r1 3", "set r1 3", "r1 3"},
		{"set r1 0", "set r1 -1", "r1 full"},
		{"field r1 0", "set r1 3", "r1 full"},
		{"set r1 3", "and r1 r0 1", "r1 0..3"},
		{"map r1 0", "map r1 0", "r1 map 0"},
		{"map r1 1", "map r1 1", "r1 map 1"},
		{"map r1 0", "map r1 1", ""},
		{"map r1 1", "map r1 0", ""},
		{"map r1 0", "set r1 0", ""},
		{"set r1 0", "map r1 0", ""},
		{"field r1 0", "map r1 1", ""},
		{"set r1 3", "set r2 3", ""},
		{"map r1 1", "set r2 3", ""},
		{"set r2 3", "map r1 1", ""},
		{"jump 0", "set r1 0", ""},
		{"map r1 0", "jump 0", ""},
	} {
		known := "r0 full"
		if c.known != "" {
			known += ", " + c.known
		}
		wantKnown(t, "field r0 0, jge r0 7 2, "+c.on+", jump 1, "+c.led+", exit r0", 5, known)
	}
	for r := range 8 {
		begin := fmt.Sprintf("field r%d 0, jge r%d 7 2, ", (r+1)%8, (r+1)%8)
		other := fmt.Sprintf("r%d", (r+1)%8)
		wantKnown(t, fmt.Sprintf("%sset r%d 3, jump 1, set r%d 9, exit %s", begin, r, r, other), 5, joinedWords(r, "3..9", (r+1)%8, "full"))
		wantKnown(t, fmt.Sprintf("%smap r%d 0, jump 1, map r%d 1, exit %s", begin, r, r, other), 5, other+" full")
		wantKnown(t, fmt.Sprintf("%smap r%d 0, jump 1, set r%d 1, exit %s", begin, r, r, other), 5, other+" full")
	}
	// What isn't known where the ways meet is asked in vain behind.
	want(t, "field r0 0, jge r0 7 2, map r1 0, jump 1, map r1 1, set r2 1, call 0, exit r0", 6, api.ErrType)
	want(t, "field r0 0, jge r0 7 2, map r1 1, jump 1, map r1 1, set r2 1, call 0, exit r0", 0, api.OK)
	want(t, "field r0 0, jge r0 7 2, set r1 1, jump 1, map r1 1, set r2 1, call 0, exit r0", 6, api.ErrType)
	want(t, "field r0 0, jge r0 7 1, set r1 1, exit r1", 3, api.ErrType)
	want(t, "field r0 0, jge r0 7 2, set r1 15, jump 1, set r1 0, load r2 r1, exit r0", 0, api.OK)
	want(t, "field r0 0, jge r0 7 2, set r1 16, jump 1, set r1 0, load r2 r1, exit r0", 5, api.ErrBound)
	want(t, "field r0 0, jge r0 7 2, set r1 0, jump 1, set r1 16, load r2 r1, exit r0", 5, api.ErrBound)
}

// TestJoinedMany: three ways and more, the odd one at each place among them.
func TestJoinedMany(t *testing.T) {
	ways := func(ws ...string) string {
		text := "field r0 0"
		for k, w := range ws {
			text += fmt.Sprintf(", jne r0 %d 2, %s, jump %d", 100+k, w, 3*(len(ws)-1-k)+2)
		}
		return text + ", set r7 1, exit r7, exit r0"
	}
	for _, c := range []struct{ usual, odd, known string }{
		{"set r1 4", "set r1 9", "r1 4..9"},
		{"set r1 4", "set r1 1", "r1 1..4"},
		{"set r1 4", "map r1 0", ""},
		{"map r1 0", "set r1 4", ""},
		{"map r1 0", "map r1 1", ""},
		{"map r1 1", "map r1 0", ""},
		{"set r1 4", "set r2 4", ""},
		{"map r1 1", "set r2 4", ""},
		{"map r1 1", "map r1 1", "r1 map 1"},
	} {
		for many := 3; many <= 5; many++ {
			for odd := range many {
				ws := slices.Repeat([]string{c.usual}, many)
				ws[odd] = c.odd
				text := ways(ws...)
				known := "r0 100.." + fmt.Sprint(99+many)
				if c.known != "" {
					known += ", " + c.known
				}
				wantKnown(t, text, strings.Count(text, ","), known)
			}
		}
	}
}

// TestLoops: what is known at a head and behind, of registers that the body writes and of those that it doesn't.
func TestLoops(t *testing.T) {
	begin := "set r1 5, map r2 1, set r3 3, "
	for _, c := range []struct {
		body  string
		at    int
		known string
	}{
		{"store r1 1", 3, "r1 5, r2 map 1, r3 3"},
		{"set r1 5", 3, "r1 full, r2 map 1, r3 3"},
		{"set r1 5", 4, "r1 5, r2 map 1, r3 3"},
		{"set r1 5", 5, "r1 5, r2 map 1, r3 3"},
		{"add r1 r1 1", 4, "r1 full, r2 map 1, r3 3"},
		{"and r1 r1 3", 4, "r1 0..3, r2 map 1, r3 3"},
		{"and r1 r1 3", 5, "r1 0..3, r2 map 1, r3 3"},
		{"map r2 1", 3, "r1 5, r3 3"},
		{"map r2 1", 4, "r1 5, r2 map 1, r3 3"},
		{"map r2 1", 5, "r1 5, r2 map 1, r3 3"},
		{"map r2 0", 3, "r1 5, r3 3"},
		{"map r2 0", 5, "r1 5, r2 map 0, r3 3"},
		{"set r2 1", 3, "r1 5, r3 3"},
		{"set r2 1", 5, "r1 5, r2 1, r3 3"},
		{"set r4 1", 3, "r1 5, r2 map 1, r3 3"},
		{"set r4 1", 4, "r1 5, r2 map 1, r3 3, r4 1"},
		{"set r4 1", 5, "r1 5, r2 map 1, r3 3, r4 1"},
		{"map r4 1", 5, "r1 5, r2 map 1, r3 3, r4 map 1"},
		{"load r3 0", 3, "r1 5, r2 map 1, r3 full"},
		{"field r3 0", 3, "r1 5, r2 map 1, r3 full"},
		{"call 6", 3, "r1 5, r2 map 1, r3 3"},
		{"call 6", 5, "r0 0, r1 5, r2 map 1, r3 3"},
		{"jump 0", 3, "r1 5, r2 map 1, r3 3"},
		{"jge r3 1 0", 4, "r1 5, r2 map 1, r3 3"},
	} {
		wantKnown(t, begin+c.body+", loop r3 1 2, exit r3", c.at, c.known)
	}
	wantKnown(t, "map r0 0, set r1 1, call 6, loop r1 1 2, exit r0", 2, "r1 1")
	wantKnown(t, "set r0 4, set r1 1, call 6, loop r1 1 2, exit r0", 2, "r0 full, r1 1")
	// The head, the place of the loop and those between are the body; what stands ahead and behind isn't.
	around := "set r1 1, set r2 2, set r3 3, set r1 4, add r4 r1 r2, loop r3 2 2, set r2 9, set r3 9, exit r2"
	wantKnown(t, around, 3, "r1 full, r2 2, r3 3")
	wantKnown(t, around, 4, "r1 4, r2 2, r3 3")
	wantKnown(t, around, 6, "r1 4, r2 2, r3 3, r4 6")
	// What a body writes where no way leads counts as well, and what is narrowed in it fits.
	wantKnown(t, "set r1 5, set r2 1, jump 1, map r1 0, loop r2 2 2, exit r2", 2, "r1 full, r2 1")
	wantKnown(t, "map r1 1, set r2 1, jump 1, map r1 1, loop r2 2 2, exit r2", 2, "r2 1")
	narrowed := "field r1 0, jlt r1 8 1, exit r1, loop r1 2 2, exit r1"
	wantKnown(t, narrowed, 1, "r1 full")
	wantKnown(t, narrowed, 3, "r1 0..7")
	wantKnown(t, narrowed, 4, "r1 0..7")
	// The beginning is a head.
	wantKnown(t, "set r1 5, loop r1 1 3, exit r1", 0, "")
	wantKnown(t, "set r1 5, loop r1 1 3, exit r1", 1, "r1 5")
	want(t, "exit r1, set r2 1, loop r2 2 2, exit r2", 0, api.ErrType)
}

// TestHeadsFit: what is known at a loop's end fits its head, or not.
func TestHeadsFit(t *testing.T) {
	for _, c := range []struct {
		begin, body string
		e           api.Errno
	}{
		{"set r1 5", "map r1 0", api.ErrType},
		{"set r1 0", "map r1 0", api.ErrType},
		{"field r1 0", "map r1 0", api.ErrType},
		{"set r1 5", "field r1 0", api.OK},
		{"set r1 5", "add r1 r1 1", api.OK},
		{"map r1 0", "map r1 1", api.OK},
		{"map r1 0", "set r1 1", api.OK},
		{"map r1 0", "map r1 0", api.OK},
		{"set r3 3", "map r1 0", api.OK},
		{"set r3 3", "set r1 9", api.OK},
		{"set r1 5", "store r1 3", api.OK},
		{"map r1 1", "store r2 3", api.OK},
	} {
		at := 3
		if c.e == api.OK {
			at = 0
		}
		want(t, "set r2 1, "+c.begin+", "+c.body+", loop r2 1 9, exit r2", at, c.e)
	}
	// On one of the ways through the body alone it is a handle, so at the end nothing is known of it.
	want(t, "set r2 1, set r1 5, jge r2 1 1, set r1 4, loop r2 2 9, exit r2", 0, api.OK)
	want(t, "field r2 0, set r1 5, jge r2 1 1, map r1 0, loop r2 2 9, exit r2", 4, api.ErrType)
	want(t, "field r2 0, set r1 5, map r3 1, set r1 r3, jge r2 1 1, set r1 0, loop r2 3 9, exit r2", 6, api.ErrType)
	// Each register by itself, the last one among them.
	for r := range 8 {
		if r == 2 {
			continue
		}
		want(t, fmt.Sprintf("set r2 1, set r%d 5, map r%d 0, loop r2 1 9, exit r2", r, r), 3, api.ErrType)
		want(t, fmt.Sprintf("set r2 1, set r%d 5, set r%d 6, loop r2 1 9, exit r2", r, r), 0, api.OK)
	}
	// What isn't known any more at the head can't be asked for there.
	want(t, "set r2 1, map r1 0, call 0, map r1 0, loop r2 2 9, exit r2", 2, api.ErrType)
	want(t, "set r2 1, map r1 0, call 0, set r4 0, loop r2 2 9, exit r2", 0, api.OK)
	want(t, "set r2 1, set r1 3, load r0 r1, set r1 3, loop r2 2 9, exit r2", 2, api.ErrBound)
	want(t, "set r2 1, set r1 3, load r0 r1, set r4 3, loop r2 2 9, exit r2", 0, api.OK)
	want(t, "set r2 1, set r1 3, add r1 r1 1, and r1 r1 15, load r0 r1, loop r2 3 9, exit r2", 0, api.OK)
}

// TestNested: loops in one another, one behind the other, and heads of several.
func TestNested(t *testing.T) {
	// The inner loop (4 to 5) writes r2 and r3, the outer one (3 to 7) r5 as well.
	nested := "set r1 1, set r2 2, map r3 1, store r1 0, set r2 6, loop r1 1 1, set r5 5, loop r1 4 1, exit r2"
	wantKnown(t, nested, 3, "r1 1, r2 full, r3 map 1")
	wantKnown(t, nested, 4, "r1 1, r2 full, r3 map 1")
	wantKnown(t, nested, 5, "r1 1, r2 6, r3 map 1")
	wantKnown(t, nested, 8, "r1 1, r2 6, r3 map 1, r5 5")
	handles := "set r1 1, set r2 2, map r3 1, store r1 0, map r3 0, loop r1 1 1, set r5 5, loop r1 4 1, exit r2"
	wantKnown(t, handles, 3, "r1 1, r2 2")
	wantKnown(t, handles, 4, "r1 1, r2 2")
	wantKnown(t, handles, 6, "r1 1, r2 2, r3 map 0")
	// The inner head forgets no more than its own body writes.
	inner := "set r1 1, set r2 2, set r2 3, set r3 4, set r3 5, loop r1 1 1, loop r1 4 1, exit r2"
	wantKnown(t, inner, 2, "r1 1, r2 full")
	wantKnown(t, inner, 3, "r1 1, r2 3")
	wantKnown(t, inner, 4, "r1 1, r2 3, r3 full")
	wantKnown(t, inner, 5, "r1 1, r2 3, r3 5")
	// Two loops of one head: what either writes, also behind the lesser one.
	shared := "set r1 1, set r2 2, set r3 3, set r2 4, loop r1 1 1, set r3 5, loop r1 3 1, exit r1"
	wantKnown(t, shared, 3, "r1 1, r2 full, r3 full")
	wantKnown(t, shared, 4, "r1 1, r2 4, r3 full")
	wantKnown(t, shared, 7, "r1 1, r2 4, r3 5")
	want(t, "set r1 1, set r2 2, set r3 3, set r2 4, loop r1 1 1, map r3 0, loop r1 3 1, exit r1", 6, api.ErrType)
	want(t, "set r1 1, set r2 2, set r3 3, map r2 0, loop r1 1 1, set r2 5, loop r1 3 1, exit r1", 4, api.ErrType)
	want(t, "set r1 1, set r2 2, set r3 3, map r2 0, set r2 5, loop r1 2 1, exit r1", 0, api.OK)
	three := "set r1 1, set r2 2, set r3 3, map r4 0, store r1 0, set r2 4, loop r1 2 1, set r3 5, loop r1 4 1, map r4 1, loop r1 6 1, exit r1"
	wantKnown(t, three, 4, "r1 1, r2 full, r3 full")
	wantKnown(t, three, 11, "r1 1, r2 4, r3 5, r4 map 1")
	// One behind the other: neither's body counts at the other's head.
	apart := "set r1 1, set r2 2, set r3 3, set r2 4, loop r1 1 1, set r3 5, loop r1 1 1, exit r1"
	wantKnown(t, apart, 3, "r1 1, r2 full, r3 3")
	wantKnown(t, apart, 5, "r1 1, r2 4, r3 full")
	// A head to which a jump leads as well.
	led := "field r1 0, set r2 2, jge r1 9 1, set r2 4, and r3 r2 7, set r2 6, loop r1 2 1, exit r2"
	wantKnown(t, led, 4, "r1 full, r2 full")
	kept := "field r1 0, set r2 2, jge r1 9 1, set r2 4, and r3 r2 7, set r4 6, loop r1 2 1, exit r2"
	wantKnown(t, kept, 4, "r1 full, r2 2..4")
	wantKnown(t, kept, 5, "r1 full, r2 2..4, r3 0..4")
	// A jump out of a loop, and one over it.
	wantKnown(t, "field r1 0, set r2 2, set r2 4, jeq r1 7 1, loop r1 2 1, exit r2", 5, "r1 full, r2 4")
	wantKnown(t, "field r1 0, set r2 2, jge r1 9 2, set r2 4, loop r1 1 1, exit r2", 5, "r1 full, r2 2..4")
}

// TestSeveral: of several places the lowest to which a way leads is told, of one place the first error.
func TestSeveral(t *testing.T) {
	for _, c := range []struct {
		text string
		at   int
		e    api.Errno
	}{
		{"load r0 16, exit r1", 0, api.ErrBound},
		{"set r0 r1, load r0 16, map r1 3, exit r5", 0, api.ErrType},
		{"map r1 3, set r0 r1, exit r5", 0, api.ErrBound},
		{"set r0 1, map r1 2, load r0 16, exit r5", 1, api.ErrBound},
		{"set r0 1, jump 1, load r0 16, exit r5", 3, api.ErrType},
		{"set r0 1, jne r0 1 2, exit r5, load r0 16, exit r0", 2, api.ErrType},
		{"field r0 0, jne r0 1 1, exit r5, load r0 16, exit r0", 2, api.ErrType},
		{"field r0 0, jne r0 1 1, exit r0, load r0 16, exit r5", 3, api.ErrBound},
		{"set r0 1, set r1 2, map r0 1, loop r1 1 1, load r0 16, exit r5", 3, api.ErrType},
		{"set r0 1, set r1 2, load r4 16, map r0 1, loop r1 2 1, exit r1", 2, api.ErrBound},
		{"set r1 5, map r1 0, loop r1 1 9, exit r1", 2, api.ErrType},
		{"store r1 16, exit r1", 0, api.ErrType},
		{"set r1 16, store r2 r1, exit r1", 1, api.ErrType},
		{"set r1 1, store r1 r2, exit r1", 1, api.ErrType},
		{"set r1 16, call 0, exit r1", 1, api.ErrType},
		{"set r1 16, call 5, exit r7", 1, api.ErrBound},
		{"map r1 1, call 5, exit r1", 1, api.ErrType},
	} {
		want(t, c.text, c.at, c.e)
	}
}

// spare is a module with the same Maps and Code, and with room behind them that isn't empty.
func spare(m api.Module) api.Module {
	maps := append(slices.Clone(m.Maps), 77, 78, 79)
	is := append(slices.Clone(m.Code), api.Inst{Op: 91}, api.Inst{Op: 92})
	return api.Module{Maps: maps[:len(m.Maps)], Code: is[:len(m.Code)]}
}

// memories are modules that are good, with places to which no way leads, and ones that aren't.
func memories(t *testing.T) []api.Module {
	ms := []api.Module{{}, {Maps: []int{1, 1}, Code: code(t, "exit r0")}, {Maps: []int{3}, Code: code(t, "set r0 1")}}
	for _, text := range []string{
		"set r0 7, exit r0", "exit r0", "set r1 5, jeq r1 5 1, load r0 r2, exit r1",
		"set r1 5, map r2 1, add r1 r1 1, loop r1 1 9, set r3 r2, exit r1",
		strings.Repeat("add r1 r1 1, ", 63) + "exit r1", "set r1 0, " + strings.Repeat("add r1 r1 1, ", 62) + "exit r1",
	} {
		ms = append(ms, module(t, text))
	}
	return ms
}

// TestHandedIn: what is handed in stays as it was, the room behind it too, and what was answered of it isn't changed when it is.
func TestHandedIn(t *testing.T) {
	for _, m := range memories(t) {
		own := spare(m)
		before := spare(m)
		judge.Judge(own)
		types, e := judge.Types(own)
		if !slices.Equal(own.Maps[:len(m.Maps)+3], before.Maps[:len(m.Maps)+3]) || !slices.Equal(own.Code[:len(m.Code)+2], before.Code[:len(m.Code)+2]) {
			t.Errorf("P9.3: %s: changed to %s", show(before), show(own))
		}
		for k := range own.Code {
			own.Code[k] = api.Inst{Op: api.OpExit}
		}
		for k := range own.Maps {
			own.Maps[k] = 9
		}
		wantSame(t, before, types, e)
	}
}

// wantSame: is it still what the module is answered with?
func wantSame(t *testing.T, m api.Module, types [][]api.Type, e api.Errno) {
	t.Helper()
	known, _, told := told(m)
	if len(types) != len(known) || e != told {
		t.Fatalf("P9.3: %s: %d lists, %d", show(m), len(types), e)
	}
	for at, f := range known {
		if !slices.Equal(types[at], f) {
			t.Fatalf("P9.3: %s: at %d %s", show(m), at, tell(types[at]))
		}
	}
}

// TestAnswers: answers share nothing with one another, their lists neither, and writing to one changes no later one.
func TestAnswers(t *testing.T) {
	junk := api.Type{Kind: 9, Span: api.Span{Lo: 8, Hi: 7}, Map: 6}
	for _, m := range memories(t) {
		first, e := judge.Types(m)
		for at := range first {
			second, _ := judge.Types(m)
			for k := range second[at][:cap(second[at])] {
				second[at][:cap(second[at])][k] = junk
			}
			second[at] = first[at]
			wantSame(t, m, second, e)
			wantSame(t, m, first, e)
		}
		third, _ := judge.Types(m)
		for k := range third[:cap(third)] {
			third[:cap(third)][k] = []api.Type{junk}
		}
		wantSame(t, m, first, e)
		again, e := judge.Types(m)
		wantSame(t, m, again, e)
	}
}

// TestNothingKept: what a module is answered with doesn't hang on those ahead of it.
func TestNothingKept(t *testing.T) {
	ms := memories(t)
	for _, a := range ms {
		for _, b := range ms {
			judge.Types(a)
			judge.Judge(a)
			hold(t, b)
		}
	}
}

// TestNilAndEmpty are one.
func TestNilAndEmpty(t *testing.T) {
	for _, text := range []string{"set r0 7, exit r0", "map r0 0, exit r0", "exit r0"} {
		a := api.Module{Code: code(t, text)}
		b := api.Module{Maps: []int{}, Code: a.Code}
		_, at, e := hold(t, a)
		if gotAt, got := judge.Judge(b); gotAt != at || got != e {
			t.Errorf("P9.1: %q: %d, %d; not %d, %d", text, gotAt, got, at, e)
		}
		hold(t, b)
	}
	hold(t, api.Module{})
	hold(t, api.Module{Maps: []int{}, Code: []api.Inst{}})
}
