package engine_test

import (
	"fmt"
	"math"
	"slices"
	"strings"
	"testing"

	"tappet/api"
	"tappet/engine"
	"tappet/flow"
	"tappet/judge"
	"tappet/lines"
	"tappet/scratch"
)

// event is the chapter's.
var event = api.Event{A: 20, B: 3}

// module is one of lines with commas between them, with two maps, neither of which has its place among them as its number.
func module(t *testing.T, text string) api.Module {
	t.Helper()
	is, n, e := lines.Parse(strings.ReplaceAll(text, ", ", "\n") + "\n")
	if e != api.OK {
		t.Fatalf("%q: line %d: %d", text, n, e)
	}
	return api.Module{Maps: []int{2, 0}, Code: is}
}

// machine is one at its beginning, with a new scratch.
func machine(t *testing.T, text string, e api.Event) (*engine.Machine, *scratch.Scratch) {
	t.Helper()
	s := scratch.New()
	m, wrong := engine.New(module(t, text), e, s)
	if m == nil || wrong != api.OK {
		t.Fatalf("P11.1: %q: %v, %d", text, m, wrong)
	}
	return m, s
}

// tell is an act in few words: its place, what it was unless ActRan, and its value unless 0. An act with more in it than these say is told in full.
func tell(a api.Act) string {
	kinds := []string{"none", "", "call", "note", "end", "wait", "over"}
	words := []string{fmt.Sprint(a.Pc)}
	if a.Kind < 0 || int(a.Kind) >= len(kinds) || a.Kind != api.ActCall && a.Item != (api.Item{}) || a.Kind == api.ActWait && a.Val != 0 {
		return fmt.Sprintf("%+v", a)
	}
	if a.Kind != api.ActRan {
		words = append(words, kinds[a.Kind])
	}
	if a.Kind == api.ActCall {
		words = append(words, fmt.Sprint(a.Item.Map, " ", []string{"get", "has", "put", "del", "add"}[a.Item.Op], " ", a.Item.Key, " ", a.Item.Val))
	}
	if a.Val != 0 {
		words = append(words, fmt.Sprint("= ", a.Val))
	}
	return strings.Join(words, " ")
}

func tellAll(acts []api.Act) string {
	var all []string
	for _, a := range acts {
		all = append(all, tell(a))
	}
	return strings.Join(all, ", ")
}

// wantTrace holds Trace against what is written out.
func wantTrace(t *testing.T, text string, e api.Event, want string, rs ...api.Res) {
	t.Helper()
	acts, wrong := engine.Trace(module(t, text), e, rs...)
	if got := tellAll(acts); got != want || wrong != api.OK {
		t.Errorf("P11.2, P11.5: %q: %q, %d; not %q", text, got, wrong, want)
	}
}

// result is what a module ends with, without any answers.
func result(t *testing.T, text string, e api.Event) uint64 {
	t.Helper()
	acts, wrong := engine.Trace(module(t, text), e)
	if wrong != api.OK || len(acts) == 0 || acts[len(acts)-1].Kind != api.ActEnd {
		t.Fatalf("P11.5: %q: %q, %d", text, tellAll(acts), wrong)
	}
	return acts[len(acts)-1].Val
}

// wantStep holds one step against what is written out.
func wantStep(t *testing.T, m *engine.Machine, want string) {
	t.Helper()
	if got := tell(m.Step()); got != want {
		t.Errorf("P11.2: %q, not %q", got, want)
	}
}

// wantAt holds all that can be asked of a machine against what is written out.
func wantAt(t *testing.T, m *engine.Machine, at, steps int, result uint64, over bool, regs ...uint64) {
	t.Helper()
	if m.At() != at || m.Steps() != steps {
		t.Errorf("P11.4: At %d, Steps %d; not %d, %d", m.At(), m.Steps(), at, steps)
	}
	if n, so := m.Over(); n != result || so != over {
		t.Errorf("P11.4: Over %d %v, not %d %v", n, so, result, over)
	}
	if want := append(regs, make([]uint64, 8-len(regs))...); !slices.Equal(m.Regs(), want) {
		t.Errorf("P11.4: Regs %d, not %d", m.Regs(), want)
	}
}

func TestExamples(t *testing.T) {
	m, _ := machine(t, "field r2 0, map r1 0, call 0, exit r0", event)
	wantStep(t, m, "0")
	wantStep(t, m, "1")
	wantStep(t, m, "2 call 2 get 20 0")
	wantStep(t, m, "2 wait")
	if e := m.Answer(api.Res{Found: true, Val: 9}); e != api.OK {
		t.Errorf("P11.3: %d", e)
	}
	wantStep(t, m, "3 end = 9")
	wantStep(t, m, "3 over = 9")
	wantTrace(t, "set r1 3, sub r1 r1 1, loop r1 1 9, exit r1", event, "0, 1, 2, 1, 2, 1, 2, 3 end")
	wantTrace(t, "set r1 9, loop r1 1 2, exit r1", event, "0, 1, 0, 1, 0, 1, 2 end = 9")
	wantTrace(t, "set r1 4, call 5, call 6, exit r0", event, "0, 1 = 1, 2 note = 4, 3 end")
}

// used is a scratch of which every word and every counter was used.
func used() *scratch.Scratch {
	s := scratch.New()
	for k := range 16 {
		s.Store(k, uint64(100+k))
		s.Raise(append(make([]uint64, k), uint64(200+k))...)
	}
	return s
}

// holdNew holds New and Trace at a module against what the judge says of it; beside an error the scratch is as it was, and a nil scratch comes first.
func holdNew(t *testing.T, m api.Module) api.Errno {
	t.Helper()
	_, want := judge.Judge(m)
	s := used()
	begin := *s
	machine, e := engine.New(m, event, s)
	if e != want || (machine == nil) != (want != api.OK) {
		t.Errorf("P11.1: %+v: %v, %d; the judge says %d", m, machine, e, want)
	}
	if want != api.OK && *s != begin {
		t.Errorf("P11.1: %+v: refused, but the scratch is changed", m)
	}
	if want == api.OK && (s.Words != scratch.Words{} || s.Counters != begin.Counters) {
		t.Errorf("P11.1: %+v: the words aren't wiped, or the counters don't stay", m)
	}
	if machine, e := engine.New(m, event, nil); machine != nil || e != api.ErrArg {
		t.Errorf("P11.1: %+v: no scratch: %v, %d", m, machine, e)
	}
	if acts, e := engine.Trace(m, event, api.Res{}); e != want || (len(acts) == 0) != (want != api.OK) {
		t.Errorf("P11.5: %+v: %d acts, %d; the judge says %d", m, len(acts), e, want)
	}
	return want
}

func TestNew(t *testing.T) {
	long := module(t, "exit r0")
	long.Code = make([]api.Inst, 65)
	for text, want := range map[string]api.Errno{
		"set r0 1, exit r0":                                api.OK,
		"map r1 1, set r2 0, call 0, exit r0":              api.OK,
		"set r0 1":                                         api.ErrEnd,
		"jump 1, exit r0":                                  api.ErrFlow,
		"set r1 1, loop r1 2 1, exit r1":                   api.ErrFlow,
		"jump 1, set r1 9, set r1 8, loop r1 2 1, exit r1": api.ErrLoop,
		"set r1 1, loop r1 1 200, loop r1 2 200, exit r1":  api.ErrCost,
		"exit r0": api.ErrType,
		"set r1 5, map r1 0, set r2 1, loop r2 2 9, exit r2": api.ErrType,
		"map r1 2, set r0 0, exit r0":                        api.ErrBound,
		"field r1 0, load r0 r1, exit r0":                    api.ErrBound,
		"field r1 0, call 5, exit r0":                        api.ErrBound,
	} {
		if e := holdNew(t, module(t, text)); e != want {
			t.Errorf("P11.1: %q: %d, not %d", text, e, want)
		}
	}
	good := module(t, "set r0 1, exit r0").Code
	for k, c := range []struct {
		m    api.Module
		want api.Errno
	}{
		{api.Module{}, api.ErrShort},
		{long, api.ErrLong},
		{api.Module{Code: []api.Inst{{Op: 23}}}, api.ErrForm},
		{api.Module{Code: []api.Inst{{Op: api.OpCall, Imm: 7}, {Op: api.OpExit}}}, api.ErrForm},
		{api.Module{Maps: []int{4}, Code: good}, api.ErrArg},
		{api.Module{Maps: []int{1, 1}, Code: good}, api.ErrArg},
		{api.Module{Maps: []int{-1}}, api.ErrArg},
		{api.Module{Maps: []int{0, 1, 2, 3, 0}, Code: good}, api.ErrArg},
		{api.Module{Code: good}, api.OK},
		{api.Module{Maps: []int{}, Code: good}, api.OK},
	} {
		if e := holdNew(t, c.m); e != c.want {
			t.Errorf("P11.1: number %d: %d, not %d", k, e, c.want)
		}
	}
}

// TestBeginning: the registers and turns are 0, the place is 0, and it runs.
func TestBeginning(t *testing.T) {
	m, _ := machine(t, "field r0 0, field r7 1, exit r7", api.Event{A: most, B: 5})
	wantAt(t, m, 0, 0, 0, false)
	if e := m.Answer(api.Res{Val: 7}); e != api.ErrArg {
		t.Errorf("P11.3: it runs: %d", e)
	}
	wantAt(t, m, 0, 0, 0, false)
	if m.Event != (api.Event{A: most, B: 5}) || m.A != most || m.B != 5 {
		t.Errorf("P11.1: its event is %v", m.Event)
	}
	wantStep(t, m, "0")
	wantAt(t, m, 1, 1, 0, false, most)
	wantStep(t, m, "1")
	wantAt(t, m, 2, 2, 0, false, most, 0, 0, 0, 0, 0, 0, 5)
	wantStep(t, m, "2 end = 5")
	wantAt(t, m, 2, 3, 5, true, most, 0, 0, 0, 0, 0, 0, 5)
}

func TestSet(t *testing.T) {
	for _, imm := range []int64{0, 1, -1, 7, -7, math.MaxInt64, math.MinInt64, math.MinInt64 + 1} {
		text := fmt.Sprintf("set r3 %d, set r6 r3, set r3 r6, exit r6", imm)
		m, _ := machine(t, text, event)
		wantStep(t, m, "0")
		wantAt(t, m, 1, 1, 0, false, 0, 0, 0, uint64(imm))
		wantStep(t, m, "1")
		wantAt(t, m, 2, 2, 0, false, 0, 0, 0, uint64(imm), 0, 0, uint64(imm))
		wantStep(t, m, "2")
		if got := result(t, text, event); got != uint64(imm) {
			t.Errorf("P11.2: %q: %d", text, got)
		}
	}
}

// TestReckon: each operation of two numbers, with a register as its source, with an immediate, and written over one of the two.
func TestReckon(t *testing.T) {
	numbers := []uint64{0, 1, 2, 3, 15, 62, 63, 64, 65, 1 << 32, 1<<63 - 1, 1 << 63, 1<<63 + 1, most - 1, most}
	for op, name := range []string{1: "add", "sub", "mul", "div", "rem", "and", "or", "xor", "shl", "shr"} {
		for k := range len(numbers) * len(numbers) * min(op, 1) {
			a, b := numbers[k%len(numbers)], numbers[k/len(numbers)]
			want := reckoned(api.Op(op), a, b)
			for _, text := range []string{
				name + " r3 r1 r2, exit r3",
				name + " r1 r1 r2, exit r1",
				name + " r2 r1 r2, exit r2",
				fmt.Sprintf("%s r3 r1 %d, exit r3", name, int64(b)),
				fmt.Sprintf("%s r1 r1 %d, exit r1", name, int64(b)),
			} {
				text = "field r1 0, field r2 1, " + text
				if got := result(t, text, api.Event{A: a, B: b}); got != want {
					t.Errorf("P11.2: %q of %d and %d: %d, not %d", text, a, b, got, want)
				}
			}
			if got, want := result(t, "field r1 0, "+name+" r0 r1 r1, exit r0", api.Event{A: a}), reckoned(api.Op(op), a, a); got != want {
				t.Errorf("P11.2: %s of %d and itself: %d, not %d", name, a, got, want)
			}
		}
	}
	for text, want := range map[string]uint64{
		"set r1 3, sub r0 r1 5, exit r0":             most - 1,
		"set r1 3, add r0 r1 -5, exit r0":            most - 1,
		"set r1 3, mul r0 r1 -1, exit r0":            most - 2,
		"set r1 7, div r0 r1 0, exit r0":             0,
		"set r1 7, rem r0 r1 0, exit r0":             7,
		"set r1 7, rem r0 r1 4, exit r0":             3,
		"set r1 -1, div r0 r1 -1, exit r0":           1,
		"set r1 7, div r0 r1 -1, exit r0":            0,
		"set r1 12, and r0 r1 -4, exit r0":           12,
		"set r1 12, or r0 r1 -1, exit r0":            most,
		"set r1 12, xor r0 r1 -1, exit r0":           most - 12,
		"set r1 1, shl r0 r1 63, exit r0":            1 << 63,
		"set r1 1, shl r0 r1 64, exit r0":            0,
		"set r1 -1, shr r0 r1 63, exit r0":           1,
		"set r1 -1, shr r0 r1 -1, exit r0":           0,
		"set r1 -1, shr r0 r1 64, exit r0":           0,
		"set r1 -1, shr r0 r1 0, exit r0":            most,
		"set r1 6, set r2 r1, sub r1 r2 r1, exit r1": 0,
	} {
		if got := result(t, text, event); got != want {
			t.Errorf("P11.2: %q: %d, not %d", text, got, want)
		}
	}
}

// TestWords: stores and loads of every word, the source a register and an immediate; no other word changes.
func TestWords(t *testing.T) {
	for w := range 16 {
		m, s := machine(t, fmt.Sprintf("field r1 0, store r1 %d, field r2 1, and r2 r2 15, store r2 r2, load r5 %d, load r6 r2, exit r5", w, w), api.Event{A: 77, B: uint64(w) ^ 1 | 1<<60})
		other := uint64(w ^ 1)
		for k, want := range []string{"0", "1", "2", "3", "4", "5", "6", "7 end = 77"} {
			wantStep(t, m, want)
			for at := range 16 {
				want := uint64(0)
				if at == w && k >= 1 {
					want = 77
				}
				if at == int(other) && k >= 4 {
					want = other
				}
				if n, _ := s.Load(at); n != want {
					t.Errorf("P11.2: word %d: %d behind step %d, not %d", at, n, k, want)
				}
			}
		}
		wantAt(t, m, 7, 8, 77, true, 0, 77, other, 0, 0, 77, other)
	}
	wantTrace(t, "set r1 -1, store r1 0, load r2 0, exit r2", event, "0, 1, 2, 3 end = 18446744073709551615")
	wantTrace(t, "set r1 -1, store r1 15, load r2 15, exit r2", event, "0, 1, 2, 3 end = 18446744073709551615")
	wantTrace(t, "load r2 0, load r3 15, or r2 r2 r3, exit r2", event, "0, 1, 2, 3 end")
	wantTrace(t, "set r1 15, set r2 5, store r2 r1, load r1 r1, exit r1", event, "0, 1, 2, 3, 4 end = 5")
}

// TestScratchIsUsed: it is the one that was handed in, also where others write to it between two steps.
func TestScratchIsUsed(t *testing.T) {
	m, s := machine(t, "load r0 3, set r1 2, call 5, load r2 3, exit r2", event)
	s.Store(3, 40)
	wantStep(t, m, "0")
	wantAt(t, m, 1, 1, 0, false, 40)
	s.Raise(0, 0, 10)
	wantStep(t, m, "1")
	wantStep(t, m, "2 = 11")
	s.Wipe()
	wantStep(t, m, "3")
	wantStep(t, m, "4 end")
	if n, _ := s.Count(2); n != 11 {
		t.Errorf("P11.2: counter 2 is %d", n)
	}
}

// TestScratchAgain: the next machine with the same scratch finds its words wiped and its counters as they were.
func TestScratchAgain(t *testing.T) {
	s := scratch.New()
	for round := range uint64(3) {
		m, _ := engine.New(module(t, "load r0 4, set r1 6, store r1 4, call 5, exit r0"), event, s)
		wantStep(t, m, "0")
		wantAt(t, m, 1, 1, 0, false, 0)
		wantStep(t, m, "1")
		wantStep(t, m, "2")
		wantStep(t, m, fmt.Sprintf("3 = %d", round+1))
		wantStep(t, m, fmt.Sprintf("4 end = %d", round+1))
		if n, _ := s.Load(4); n != 6 {
			t.Errorf("P11.2: word 4 is %d", n)
		}
	}
}

func TestFieldAndMap(t *testing.T) {
	e := api.Event{A: most, B: 1 << 63}
	wantTrace(t, "field r7 0, exit r7", e, "0, 1 end = 18446744073709551615")
	wantTrace(t, "field r0 1, exit r0", e, "0, 1 end = 9223372036854775808")
	for i := range 4 {
		given := module(t, fmt.Sprintf("map r5 %d, set r6 r5, set r0 9, exit r0", i))
		given.Maps = []int{3, 2, 1, 0}
		m, _ := engine.New(given, event, scratch.New())
		wantStep(t, m, "0")
		wantStep(t, m, "1")
		wantAt(t, m, 2, 2, 0, false, 0, 0, 0, 0, 0, uint64(i), uint64(i))
	}
}

func TestJumps(t *testing.T) {
	wantTrace(t, "set r0 1, jump 0, set r0 2, exit r0", event, "0, 1, 2, 3 end = 2")
	wantTrace(t, "set r0 1, jump 1, set r0 2, exit r0", event, "0, 1, 3 end = 1")
	wantTrace(t, "set r0 1, jump 3, set r0 2, set r0 3, set r0 4, exit r0", event, "0, 1, 5 end = 1")
	far := "set r0 5, jump 61" + strings.Repeat(", exit r0", 62)
	wantTrace(t, far, event, "0, 1, 63 end = 5")
}

func TestConditions(t *testing.T) {
	numbers := []uint64{0, 1, 2, 1<<63 - 1, 1 << 63, 1<<63 + 1, most - 1, most}
	for op, name := range map[api.Op]string{16: "jeq", 17: "jne", 18: "jlt", 19: "jge"} {
		for _, a := range numbers {
			for _, b := range numbers {
				e, want := api.Event{A: a, B: b}, "0, 1, 2, 3, 4 end = 1"
				if so(op, a, b) {
					want = "0, 1, 2, 5, 6 end = 2"
				}
				wantTrace(t, fmt.Sprintf("field r1 0, field r2 1, %s r1 r2 2, set r3 1, exit r3, set r3 2, exit r3", name), e, want)
				wantTrace(t, fmt.Sprintf("field r1 0, field r2 1, %s r1 %d 2, set r3 1, exit r3, set r3 2, exit r3", name, int64(b)), e, want)
				wantTrace(t, fmt.Sprintf("field r1 0, field r2 1, %s r1 r2 0, set r0 4, exit r0", name), e, "0, 1, 2, 3, 4 end = 4")
			}
		}
	}
	below, at, above := api.Event{A: 4}, api.Event{A: 5}, api.Event{A: 6}
	for text, goes := range map[string][3]bool{
		"jeq r1 5 2":  {false, true, false},
		"jne r1 5 2":  {true, false, true},
		"jlt r1 5 2":  {true, false, false},
		"jge r1 5 2":  {false, true, true},
		"jlt r1 -1 2": {true, true, true},
		"jge r1 -1 2": {false, false, false},
		"jeq r1 r1 2": {true, true, true},
		"jne r1 r1 2": {false, false, false},
	} {
		for k, e := range []api.Event{below, at, above} {
			want := "0, 1, 2, 3 end = 7"
			if goes[k] {
				want = "0, 1, 4, 5 end = 8"
			}
			wantTrace(t, "field r1 0, "+text+", set r0 7, exit r0, set r0 8, exit r0", e, want)
		}
	}
}

func TestLoops(t *testing.T) {
	for _, c := range []struct{ text, want string }{
		// An A of 0 goes on at once.
		{"set r1 0, loop r1 1 5, exit r1", "0, 1, 2 end"},
		// One turn, by its bound and by its A.
		{"set r1 7, loop r1 1 1, exit r1", "0, 1, 0, 1, 2 end = 7"},
		{"set r1 2, sub r1 r1 1, loop r1 1 9, exit r1", "0, 1, 2, 1, 2, 3 end"},
		// A is any number but 0.
		{"set r1 -1, loop r1 1 1, exit r1", "0, 1, 0, 1, 2 end = 18446744073709551615"},
		// It leads back over several places.
		{"set r0 0, set r1 5, add r0 r0 1, loop r1 2 2, exit r0", "0, 1, 2, 3, 1, 2, 3, 1, 2, 3, 4 end = 3"},
		// A loop of loops: the inner one's turn is 0 again whenever it goes on.
		{"set r1 1, set r2 0, add r2 r2 1, loop r1 1 2, loop r1 3 1, exit r2", "0, 1, 2, 3, 2, 3, 2, 3, 4, 1, 2, 3, 2, 3, 2, 3, 4, 5 end = 3"},
		// Both have one head.
		{"set r1 1, set r2 0, add r2 r2 1, loop r1 1 1, loop r1 2 1, exit r2", "0, 1, 2, 3, 2, 3, 4, 2, 3, 2, 3, 4, 5 end = 4"},
		// Come to again behind an end that its A brought, with its turn below its bound: it has all of its turns again.
		{"set r3 2, set r1 3, sub r1 r1 1, loop r1 1 3, sub r3 r3 1, loop r3 4 1, exit r1", "0, 1, 2, 3, 2, 3, 2, 3, 4, 5, 1, 2, 3, 2, 3, 2, 3, 4, 5, 6 end"},
		// Two loops one behind the other have a turn each.
		{"set r1 1, set r0 0, add r0 r0 1, loop r1 1 1, add r0 r0 1, loop r1 1 2, exit r0", "0, 1, 2, 3, 2, 3, 4, 5, 4, 5, 4, 5, 6 end = 5"},
		// A jump out of the inner loop leaves its turn as it is: of the four rounds of the outer one the first three lead back once each, the fourth goes on.
		{"set r1 1, set r2 0, add r2 r2 1, jeq r2 2 1, loop r1 2 3, loop r1 4 3, exit r2",
			"0, 1, 2, 3, 4, 2, 3, 5, 1, 2, 3, 4, 2, 3, 5, 1, 2, 3, 4, 2, 3, 5, 1, 2, 3, 4, 5, 6 end = 1"},
	} {
		wantTrace(t, c.text, event, c.want)
	}
}

// TestManyTurns: a loop leads back as often as its bound says, up to what the greatest cost lets in.
func TestManyTurns(t *testing.T) {
	for _, bound := range []int{1, 2, 3, 50, 126} {
		text := fmt.Sprintf("set r1 1, add r0 r1 0, loop r1 1 %d, exit r0", bound)
		acts, e := engine.Trace(module(t, text), event)
		if e != api.OK || len(acts) != 2*(bound+1)+2 {
			t.Errorf("P11.2: %q: %d acts, %d", text, len(acts), e)
		}
		count := fmt.Sprintf("set r0 0, set r1 %d, add r0 r0 1, sub r1 r1 1, loop r1 2 %d, exit r0", min(bound, 80), min(bound, 80))
		if n := result(t, count, event); n != uint64(min(bound, 80)) {
			t.Errorf("P11.2: %q: %d", count, n)
		}
	}
}

// helped is a module that calls a helper with a map's handle, a key and a value, and ends with the answer.
func helped(t *testing.T, h, i int, maps []int) api.Module {
	m := module(t, fmt.Sprintf("map r1 %d, field r2 0, field r3 1, call %d, exit r0", i, h))
	m.Maps = maps
	return m
}

func TestHelpersOnMaps(t *testing.T) {
	asked := []string{"get 9 0", "has 9 0", "put 9 4", "del 9 0", "add 9 4"}
	answers := []api.Res{
		{}, {Found: true}, {Val: 5}, {Found: true, Val: most}, {E: api.ErrFull}, {E: api.ErrFull, Found: true, Val: 6},
		{E: -1, Val: 7}, {Out: true, OutKey: 3, OutVal: 4}, {E: api.OK, Found: false, Val: 1, Out: true, OutKey: 8, OutVal: 9},
	}
	want := [][]uint64{
		{0, 0, 5, most, 0, 6, 7, 0, 1},
		{0, 1, 0, 1, 0, 1, 0, 0, 0},
		{1, 1, 1, 1, 0, 0, 0, 1, 1},
		{0, 1, 0, 1, 0, 1, 0, 0, 0},
		{0, 0, 5, most, 0, 6, 7, 0, 1},
	}
	for _, maps := range [][]int{{3}, {1, 0}, {0, 2, 1}, {3, 2, 1, 0}, {1, 2, 3, 0}} {
		for i := range maps {
			for h, ask := range asked {
				for k, r := range answers {
					m, e := engine.New(helped(t, h, i, maps), api.Event{A: 9, B: 4}, scratch.New())
					if e != api.OK {
						t.Fatal(e)
					}
					for _, at := range []string{"0", "1", "2"} {
						wantStep(t, m, at)
					}
					wantStep(t, m, fmt.Sprintf("3 call %d %s", maps[i], ask))
					wantAt(t, m, 3, 4, 0, false, 0, uint64(i), 9, 4)
					if e := m.Answer(r); e != api.OK {
						t.Errorf("P11.3: %d", e)
					}
					wantAt(t, m, 4, 4, 0, false, want[h][k], uint64(i), 9, 4)
					m.Step()
					wantAt(t, m, 4, 5, want[h][k], true, want[h][k], uint64(i), 9, 4)
				}
			}
		}
	}
}

// TestHandleIsMoved: a handle in r1 that was set from another register is still that map's.
func TestHandleIsMoved(t *testing.T) {
	wantTrace(t, "map r5 1, map r1 0, set r2 6, call 1, set r1 r5, set r0 8, call 3, exit r0", event,
		"0, 1, 2, 3 call 2 has 6 0, 4, 5, 6 call 0 del 6 0, 7 end = 1", api.Res{}, api.Res{Found: true})
}

func TestMark(t *testing.T) {
	for slot := range 16 {
		given := module(t, "field r1 0, and r1 r1 15, call 5, set r4 r0, call 5, exit r4")
		s := scratch.New()
		s.Raise(slices.Repeat([]uint64{30}, 16)...)
		m, _ := engine.New(given, api.Event{A: uint64(slot) + 1<<40}, s)
		for _, want := range []string{"0", "1", "2 = 31", "3", "4 = 32", "5 end = 31"} {
			wantStep(t, m, want)
		}
		for k := range 16 {
			want := uint64(30)
			if k == slot {
				want = 32
			}
			if n, _ := s.Count(k); n != want {
				t.Errorf("P11.2: counter %d is %d, not %d", k, n, want)
			}
		}
		wantAt(t, m, 5, 6, 31, true, 32, uint64(slot), 0, 0, 31)
	}
}

// TestMarkOver: behind the greatest number a counter is 0 again, and 1.
func TestMarkOver(t *testing.T) {
	s := scratch.New()
	s.Raise(0, most-1)
	m, _ := engine.New(module(t, "set r0 9, set r1 1, call 5, call 5, call 5, exit r0"), event, s)
	for _, want := range []string{"0", "1", "2 = 18446744073709551615", "3", "4 = 1", "5 end = 1"} {
		wantStep(t, m, want)
	}
	if n, _ := s.Count(1); n != 1 {
		t.Errorf("P11.2: the counter is %d", n)
	}
}

func TestNote(t *testing.T) {
	for _, n := range []int64{0, 1, 15, 16, -1, math.MinInt64} {
		m, s := machine(t, fmt.Sprintf("set r0 5, set r1 %d, call 6, exit r1", n), event)
		wantStep(t, m, "0")
		wantStep(t, m, "1")
		wantAt(t, m, 2, 2, 0, false, 5, uint64(n))
		if a := m.Step(); a != (api.Act{Kind: api.ActNote, Pc: 2, Val: uint64(n)}) {
			t.Errorf("P11.2: %+v", a)
		}
		wantAt(t, m, 3, 3, 0, false, 0, uint64(n))
		if *s != *scratch.New() {
			t.Error("P11.2: a note changes the scratch")
		}
	}
}

// TestRunsWaitsEnds: all calls in each of the three states, and those that change nothing often.
func TestRunsWaitsEnds(t *testing.T) {
	m, s := machine(t, "map r1 1, set r2 8, set r3 6, call 4, map r1 0, call 0, exit r0", event)
	refused := func() {
		t.Helper()
		for range 3 {
			if e := m.Answer(api.Res{Found: true, Val: 77}); e != api.ErrArg {
				t.Errorf("P11.3: it doesn't wait: %d", e)
			}
		}
	}
	waits := func(want string) {
		t.Helper()
		for range 3 {
			wantStep(t, m, want)
		}
	}
	answered := func(n uint64) {
		t.Helper()
		if e := m.Answer(api.Res{Val: n}); e != api.OK {
			t.Errorf("P11.3: it waits: %d", e)
		}
	}
	refused()
	for _, want := range []string{"0", "1", "2"} {
		wantStep(t, m, want)
		refused()
	}
	wantAt(t, m, 3, 3, 0, false, 0, 1, 8, 6)
	wantStep(t, m, "3 call 0 add 8 6")
	wantAt(t, m, 3, 4, 0, false, 0, 1, 8, 6)
	waits("3 wait")
	wantAt(t, m, 3, 4, 0, false, 0, 1, 8, 6)
	answered(most)
	wantAt(t, m, 4, 4, 0, false, most, 1, 8, 6)
	refused()
	wantAt(t, m, 4, 4, 0, false, most, 1, 8, 6)
	wantStep(t, m, "4")
	wantStep(t, m, "5 call 2 get 8 0")
	wantAt(t, m, 5, 6, 0, false, most, 0, 8, 6)
	waits("5 wait")
	answered(41)
	refused()
	wantAt(t, m, 6, 6, 0, false, 41, 0, 8, 6)
	wantStep(t, m, "6 end = 41")
	wantAt(t, m, 6, 7, 41, true, 41, 0, 8, 6)
	waits("6 over = 41")
	refused()
	waits("6 over = 41")
	wantAt(t, m, 6, 7, 41, true, 41, 0, 8, 6)
	if *s != *scratch.New() {
		t.Error("P11.2: the scratch is changed")
	}
}

// TestEndsWithNothing: a result of 0 is over too, at whichever OpExit it came to.
func TestEndsWithNothing(t *testing.T) {
	m, _ := machine(t, "field r3 0, jeq r3 0 1, exit r3, set r5 0, exit r5, exit r3", api.Event{B: 9})
	for _, want := range []string{"0", "1", "3", "4 end", "4 over", "4 over"} {
		wantStep(t, m, want)
	}
	wantAt(t, m, 4, 4, 0, true)
}

func TestTraceAnswers(t *testing.T) {
	text := "map r1 0, set r2 8, call 0, set r4 r0, call 1, add r0 r0 r4, exit r0"
	first, second, third := api.Res{Val: 5}, api.Res{Found: true}, api.Res{Val: 99, Found: true}
	wantTrace(t, text, event, "0, 1, 2 call 2 get 8 0")
	wantTrace(t, text, event, "0, 1, 2 call 2 get 8 0", []api.Res{}...)
	wantTrace(t, text, event, "0, 1, 2 call 2 get 8 0, 3, 4 call 2 has 8 0", first)
	all := "0, 1, 2 call 2 get 8 0, 3, 4 call 2 has 8 0, 5, 6 end = 6"
	wantTrace(t, text, event, all, first, second)
	wantTrace(t, text, event, all, first, second, third)
	wantTrace(t, text, event, all, first, second, third, third, third)
	wantTrace(t, text, event, strings.ReplaceAll(all, "= 6", "= 100"), third, second)
	// Answers that nothing asks for.
	wantTrace(t, "set r0 3, exit r0", event, "0, 1 end = 3", first, second)
	// A call at each turn of a loop.
	wantTrace(t, "map r1 1, set r2 1, call 1, loop r0 1 2, exit r2", event,
		"0, 1, 2 call 0 has 1 0, 3, 2 call 0 has 1 0, 3, 4 end = 1", second, first, third)
	wantTrace(t, "map r1 1, set r2 1, call 1, loop r0 1 2, exit r2", event,
		"0, 1, 2 call 0 has 1 0, 3, 2 call 0 has 1 0, 3, 2 call 0 has 1 0, 3, 4 end = 1", third, third, third, third)
}

// TestTraceScratch: each Trace begins with noughts, whatever was done ahead of it.
func TestTraceScratch(t *testing.T) {
	for range 3 {
		wantTrace(t, "load r0 2, set r1 2, call 5, store r0 2, load r3 2, exit r3", event, "0, 1, 2 = 1, 3, 4, 5 end = 1")
	}
}

// TestCost: codes that take all of their cost, and none that goes on behind it, whatever they are answered.
func TestCost(t *testing.T) {
	for _, text := range []string{
		"set r0 0, exit r0",
		"set r1 9, loop r1 1 2, exit r1",
		"set r1 1, add r0 r1 0, loop r1 1 126, exit r0",
		"set r1 1, set r2 0, add r2 r2 1, loop r1 1 2, loop r1 3 1, exit r2",
		"set r4 1, loop r4 1 1, loop r4 2 1, loop r4 3 1, loop r4 4 1, loop r4 5 1, exit r4",
		"set r3 1, map r1 0, set r2 4, call 0, loop r3 3 20, exit r3",
		"set r1 1, call 5, call 6, loop r1 2 60, exit r1",
	} {
		given := module(t, text)
		cost, e := flow.Cost(given.Code)
		if e != api.OK {
			t.Fatalf("%q: %d", text, e)
		}
		for _, r := range []api.Res{{}, {Found: true, Val: most}, {E: api.ErrFull}} {
			acts, e := engine.Trace(given, event, slices.Repeat([]api.Res{r}, 300)...)
			if e != api.OK || len(acts) != cost || acts[len(acts)-1].Kind != api.ActEnd {
				t.Errorf("P11.6: %q: %d acts, the cost is %d", text, len(acts), cost)
			}
		}
	}
}

// TestApart: two machines of one module, with two scratches, stepped in turns, tell what each tells alone.
func TestApart(t *testing.T) {
	given := module(t, "field r4 0, and r4 r4 15, set r1 3, call 5, store r4 7, map r1 1, field r2 1, call 0, load r5 7, add r5 r5 r0, sub r4 r4 1, loop r4 9 3, exit r5")
	events := []api.Event{{A: 2, B: 50}, {A: 18, B: 60}, {A: 5, B: 70}}
	alone := func(e api.Event, n uint64) (out []string) {
		m, _ := engine.New(given, e, scratch.New())
		for range 100 {
			out = append(out, fmt.Sprint(tell(m.Step()), m.Regs(), m.Answer(api.Res{Val: n}), m.At(), m.Steps()))
		}
		return out
	}
	var machines []*engine.Machine
	var want [][]string
	for k, e := range events {
		m, _ := engine.New(given, e, scratch.New())
		machines = append(machines, m)
		want = append(want, alone(e, uint64(k+1)))
	}
	for step := range 100 {
		for k, m := range machines {
			got := fmt.Sprint(tell(m.Step()), m.Regs(), m.Answer(api.Res{Val: uint64(k + 1)}), m.At(), m.Steps())
			if got != want[k][step] {
				t.Fatalf("P11.7: machine %d, step %d: %s, alone %s", k, step, got, want[k][step])
			}
		}
	}
	if slices.Equal(want[0], want[1]) || slices.Equal(want[1], want[2]) {
		t.Error("they tell the same, so that they are apart can't be seen")
	}
}

// TestRegsMemory: what Regs answered may be written to, its spare room too, and stays as it is while the machine goes on.
func TestRegsMemory(t *testing.T) {
	m, _ := machine(t, "set r0 5, set r0 6, set r7 r0, exit r7", event)
	begin := m.Regs()
	wantStep(t, m, "0")
	behind := m.Regs()
	if !slices.Equal(begin, make([]uint64, 8)) {
		t.Errorf("P11.4: %d: what was answered changes with the machine", begin)
	}
	for _, list := range [][]uint64{begin, behind} {
		list = list[:cap(list)]
		for k := range list {
			list[k] = 1000
		}
	}
	wantAt(t, m, 1, 1, 0, false, 5)
	wantStep(t, m, "1")
	wantStep(t, m, "2")
	wantAt(t, m, 3, 3, 0, false, 6, 0, 0, 0, 0, 0, 0, 6)
	wantStep(t, m, "3 end = 6")
	over := m.Regs()
	clear(over[:cap(over)])
	wantStep(t, m, "3 over = 6")
	wantAt(t, m, 3, 4, 6, true, 6, 0, 0, 0, 0, 0, 0, 6)
}

// roomy is a module whose lists have spare room, with something in it.
func roomy(t *testing.T, text string) api.Module {
	m := module(t, text)
	maps := append(slices.Clone(m.Maps), 3, 1)
	code := append(slices.Clone(m.Code), api.Inst{Op: api.OpExit, A: 6}, api.Inst{Op: api.OpJump, D: 5})
	return api.Module{Maps: maps[:len(m.Maps)], Code: code[:len(m.Code)]}
}

func sameRoom(a, b api.Module) bool {
	return slices.Equal(a.Maps[:len(a.Maps)+2], b.Maps[:len(b.Maps)+2]) && slices.Equal(a.Code[:len(a.Code)+2], b.Code[:len(b.Code)+2])
}

// TestHandedIn: the module's two lists and the answers stay as they were, and may be written to afterwards.
func TestHandedIn(t *testing.T) {
	text := "map r1 1, set r2 8, set r3 2, call 4, call 0, exit r0"
	given, same := roomy(t, text), roomy(t, text)
	m, _ := engine.New(given, event, scratch.New())
	if !sameRoom(given, same) {
		t.Error("P11.1: New changes what it is handed")
	}
	wantStep(t, m, "0")
	wantStep(t, m, "1")
	if !sameRoom(given, same) {
		t.Error("P11.1: a machine changes what it was handed")
	}
	clear(given.Maps[:cap(given.Maps)])
	clear(given.Code[:cap(given.Code)])
	wantStep(t, m, "2")
	wantStep(t, m, "3 call 0 add 8 2")
	m.Answer(api.Res{Val: 1})
	given.Maps[1] = 3
	wantStep(t, m, "4 call 0 get 8 0")
	m.Answer(api.Res{Val: 2})
	wantStep(t, m, "5 end = 2")

	given = roomy(t, text)
	rs := []api.Res{{Val: 1}, {Val: 2}, {Val: 3}, {Val: 4}, {Val: 5}}
	acts, e := engine.Trace(given, event, rs[1:3]...)
	want := "0, 1, 2, 3 call 0 add 8 2, 4 call 0 get 8 0, 5 end = 3"
	if got := tellAll(acts); got != want || e != api.OK {
		t.Errorf("P11.5: %q, %d", got, e)
	}
	if !sameRoom(given, same) || !slices.Equal(rs, []api.Res{{Val: 1}, {Val: 2}, {Val: 3}, {Val: 4}, {Val: 5}}) {
		t.Error("P11.7: Trace changes what it is handed")
	}
	clear(given.Maps[:cap(given.Maps)])
	clear(given.Code[:cap(given.Code)])
	clear(rs)
	if got := tellAll(acts); got != want {
		t.Errorf("P11.7: an answer of Trace shares what was handed in: %q", got)
	}
	clear(acts[:cap(acts)])
	again, _ := engine.Trace(same, event, api.Res{}, api.Res{Val: 3})
	if got := tellAll(again); got != want {
		t.Errorf("P11.5: %q", got)
	}
}

// TestOneModule: machines that were made of one module don't share it.
func TestOneModule(t *testing.T) {
	given := module(t, "set r0 1, exit r0")
	first, _ := engine.New(given, event, scratch.New())
	given.Code[0].Imm = 2
	second, _ := engine.New(given, event, scratch.New())
	given.Code[0].Imm = 3
	for _, m := range []*engine.Machine{first, second} {
		wantStep(t, m, "0")
	}
	wantStep(t, first, "1 end = 1")
	wantStep(t, second, "1 end = 2")
}
