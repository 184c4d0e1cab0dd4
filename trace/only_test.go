package trace_test

import (
	"math"
	"slices"
	"testing"

	"tappet/api"
	"tappet/trace"
)

func checkOnly(t *testing.T, es []api.Entry, ms []api.Mark, want ...api.Entry) {
	t.Helper()
	if got := trace.Only(es, ms...); !slices.Equal(got, want) {
		t.Errorf("P26.4: Only(%+v, %v) = %+v, want %+v", es, ms, got, want)
	}
}

func checkOf(t *testing.T, es []api.Entry, tasks []int, want ...api.Entry) {
	t.Helper()
	if got := trace.Of(es, tasks...); !slices.Equal(got, want) {
		t.Errorf("P26.4: Of(%+v, %v) = %+v, want %+v", es, tasks, got, want)
	}
}

func TestOnly(t *testing.T) {
	a, b, c, d := api.Entry{What: api.MarkEnd, Task: 1}, api.Entry{What: api.MarkCall, Task: 2}, api.Entry{What: api.MarkEnd, Task: 2, Cmd: 9}, api.Entry{What: 40, Task: 3}
	es := []api.Entry{a, b, c, d, a}
	checkOnly(t, es, nil)
	checkOnly(t, es, []api.Mark{})
	checkOnly(t, es, []api.Mark{api.MarkEnd}, a, c, a)
	checkOnly(t, es, []api.Mark{api.MarkCall}, b)
	checkOnly(t, es, []api.Mark{api.MarkCall, api.MarkEnd}, a, b, c, a)
	checkOnly(t, es, []api.Mark{api.MarkEnd, api.MarkCall}, a, b, c, a)
	checkOnly(t, es, []api.Mark{api.MarkEnd, api.MarkEnd}, a, c, a)
	checkOnly(t, es, []api.Mark{api.MarkTake})
	checkOnly(t, es, []api.Mark{0, 18, -1, math.MaxInt, math.MinInt})
	checkOnly(t, es, []api.Mark{40}, d)
	checkOnly(t, es, []api.Mark{40, api.MarkCall, 0}, b, d)
	checkOnly(t, nil, nil)
	checkOnly(t, nil, []api.Mark{api.MarkEnd})
	checkOnly(t, []api.Entry{}, []api.Mark{0})
	checkOnly(t, []api.Entry{{}, a, {}}, []api.Mark{0}, api.Entry{}, api.Entry{})
}

func TestOf(t *testing.T) {
	a, b, c, d := api.Entry{What: api.MarkEnd, Task: 1}, api.Entry{What: api.MarkCall, Task: 2, From: 1}, api.Entry{What: api.MarkEnd, Task: 2, Cmd: 9}, api.Entry{What: 40, Task: -3}
	es := []api.Entry{a, b, c, d, b}
	checkOf(t, es, nil)
	checkOf(t, es, []int{})
	checkOf(t, es, []int{1}, a)
	checkOf(t, es, []int{2}, b, c, b)
	checkOf(t, es, []int{2, 1}, a, b, c, b)
	checkOf(t, es, []int{2, 2, 2}, b, c, b)
	checkOf(t, es, []int{0, 3, math.MaxInt, math.MinInt})
	checkOf(t, es, []int{-3}, d)
	checkOf(t, es, []int{7, -3, 1}, a, d)
	checkOf(t, nil, nil)
	checkOf(t, nil, []int{0})
	checkOf(t, []api.Entry{}, []int{1})
	checkOf(t, []api.Entry{{}, a, {}}, []int{0}, api.Entry{}, api.Entry{})
}

// TestKept: of lists as they come Only and Of keep what a plain loop keeps.
func TestKept(t *testing.T) {
	met := 0
	for seed := range int64(1500) {
		source := drawn(seed)
		var es, byMark, byTask []api.Entry
		for range source(14) {
			es = append(es, api.Entry{What: api.Mark(source(20) - 1), Task: source(6) - 1, From: source(3), Event: source(4), Val: uint64(source(2))})
		}
		var marks []api.Mark
		var tasks []int
		for range source(5) {
			marks, tasks = append(marks, api.Mark(source(20)-1)), append(tasks, source(6)-1)
		}
		for _, e := range es {
			in, of := false, false
			for k := range marks {
				in, of = in || marks[k] == e.What, of || tasks[k] == e.Task
			}
			if in {
				byMark = append(byMark, e)
			}
			if of {
				byTask = append(byTask, e)
			}
		}
		met += len(byMark)
		checkOnly(t, es, marks, byMark...)
		checkOf(t, es, tasks, byTask...)
	}
	if met < 800 {
		t.Errorf("met %d", met)
	}
}

// TestHandedIn: what is handed in stays as it was, its spare room too.
func TestHandedIn(t *testing.T) {
	whole := slices.Repeat([]api.Entry{{What: api.MarkBack, Task: 1, Res: api.Res{Out: true, Found: true, OutKey: 3}}, {What: api.MarkCall, Task: 2, Cmd: 3}}, 4)
	marks, tasks := []api.Mark{1, 17, 9, 9}, []int{1, 2, 9, 9}
	before, marksBefore, tasksBefore := slices.Clone(whole), slices.Clone(marks), slices.Clone(tasks)
	calls := func() {
		trace.Print(whole[:5]...)
		trace.Plain(whole[:5]...)
		trace.Only(whole[:5], marks[:2]...)
		trace.Of(whole[:5], tasks[:2]...)
		if !slices.Equal(whole, before) || !slices.Equal(marks, marksBefore) || !slices.Equal(tasks, tasksBefore) {
			t.Error("P26.4: what is handed in was changed")
		}
	}
	calls()
	whole[4].Hook, before[4].Hook = 9, 9
	calls()
	whole[0].What, before[0].What = 18, 18
	calls()
}

// scribble writes over all of a list, its spare room too, and adds to it.
func scribble(es []api.Entry) {
	es = es[:cap(es)]
	for k := range es {
		es[k] = api.Entry{What: 99, Task: 99}
	}
	_ = append(es[:len(es)/2], api.Entry{What: 98}, api.Entry{What: 97})
}

// TestAnswers: what is answered may be written over and added to, and nothing else is changed by that.
func TestAnswers(t *testing.T) {
	const text = "end t1\ncall t2 c3\nback t1 e0 p0 v0 a0 y0 b1 r0 O3 V0\nend t2\n"
	es, _, _ := trace.Parse(text)
	spare := append(slices.Clone(es), api.Entry{What: 55})
	list := spare[:len(es)]
	want := slices.Clone(es)
	for n := range 5 {
		parsed, _, _ := trace.Parse(text)
		all := []api.Mark{api.MarkEnd, api.MarkCall, api.MarkBack}[:1+n%3]
		answers := [][]api.Entry{parsed, trace.Only(list, all...), trace.Only(list, all...), trace.Of(list, 1, 2), trace.Of(list, 1, 2), trace.Of(list, 1)}
		scribble(answers[n])
		for k, a := range answers {
			fresh := [][]api.Entry{want, trace.Only(want, all...), trace.Only(want, all...), want, want, trace.Of(want, 1)}[k]
			if k != n && !slices.Equal(a, fresh) {
				t.Errorf("P26.4: answer %d shares memory with answer %d", k, n)
			}
		}
		if !slices.Equal(list, want) || spare[len(es)].What != 55 {
			t.Errorf("P26.4: answer %d shares memory with what was handed in", n)
		}
	}
	kept := trace.Only(list, 1, 15, 17)
	scribble(list)
	if !slices.Equal(kept, want) {
		t.Errorf("P26.4: what Only answered changes with what was handed in: %+v", kept)
	}
}

// TestSameAgain: an answer hangs on the arguments alone, whatever was called ahead.
func TestSameAgain(t *testing.T) {
	source := drawn(7)
	var ws []written
	for range 60 {
		ws = append(ws, some(t, source))
	}
	for range 3 {
		for k := range ws {
			w := ws[(k*37)%len(ws)]
			checkPrint(t, w.line+"\n", api.OK, w.e)
			checkParse(t, w.line+"\n", []api.Entry{w.e}, 0, api.OK)
			checkParse(t, w.line+"\nend\n", nil, 2, api.ErrText)
			checkPrint(t, "", api.ErrForm, w.e, api.Entry{})
			checkOnly(t, []api.Entry{w.e}, []api.Mark{w.e.What}, w.e)
			checkOf(t, []api.Entry{w.e}, []int{w.e.Task}, w.e)
		}
	}
}
