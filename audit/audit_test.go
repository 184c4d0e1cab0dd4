package audit_test

import (
	"math"
	"slices"
	"strings"
	"testing"

	"tappet/api"
	"tappet/audit"
	"tappet/trace"
)

// one is the config of the chapter's examples, with room for one event.
var one = api.Config{Shards: 1, Ring: 1, Maps: []api.MapDef{{Kind: api.Plain, Cap: 2}}}

// put is an apply that is right once, behind a call of task 0.
const put = "apply t2 f0 c0 g0 e0 m0 o2 k3 w9 y0 b0 r0"

// The audits, by their places in what answers tells.
const (
	maps = iota
	calls
	runs
	grace
	events
	audits
)

// nameOf is an audit's name.
func nameOf(which int) string {
	return []string{"Maps", "Calls", "Runs", "Grace", "Events"}[which]
}

// marksOf are the marks that an audit names.
func marksOf(which int) []api.Mark {
	return [][]api.Mark{
		{api.MarkApply},
		{api.MarkCall, api.MarkReturn, api.MarkAsk, api.MarkApply, api.MarkBack},
		{api.MarkPublish, api.MarkEnter, api.MarkRan, api.MarkNote, api.MarkAsk, api.MarkBack, api.MarkDone},
		{api.MarkLoaded, api.MarkRetired, api.MarkPublish, api.MarkEnter, api.MarkRan, api.MarkNote, api.MarkAsk, api.MarkBack, api.MarkDone},
		{api.MarkAccept, api.MarkTake, api.MarkDrop},
	}[which]
}

// log is the entries of lines with semicolons between them.
func log(t *testing.T, text string) []api.Entry {
	t.Helper()
	if text != "" {
		text = strings.ReplaceAll(text, "; ", "\n") + "\n"
	}
	es, n, e := trace.Parse(text)
	if e != api.OK {
		t.Fatalf("%q: line %d", text, n)
	}
	return es
}

// ask is what an audit answers, Events with the config's Ring.
func ask(t *testing.T, which int, c api.Config, es []api.Entry) int {
	t.Helper()
	switch which {
	case calls:
		return audit.Calls(es...)
	case runs:
		return audit.Runs(es...)
	case grace:
		return audit.Grace(es...)
	case events:
		return audit.Events(c.Ring, es...)
	}
	at, e := audit.Maps(c, es...)
	if e != api.OK {
		t.Errorf("P27.1: Maps(%+v, ..) is %v", c, e)
	}
	return at
}

// checkOne: an audit answers that place; the beginning up to it is right, and whatever comes behind changes nothing.
func checkOne(t *testing.T, which int, c api.Config, es []api.Entry, want int) {
	t.Helper()
	got := ask(t, which, c, es)
	if got != want {
		t.Errorf("P27.1: %s of %s is %d, want %d", nameOf(which), show(es), got, want)
	}
	if got < 0 {
		return
	}
	if got >= len(es) {
		t.Fatalf("P27.1: %s of %d entries is %d", nameOf(which), len(es), got)
	}
	if first := ask(t, which, c, es[:got]); first != -1 {
		t.Errorf("P27.4: %s of the beginning of %s up to %d is %d", nameOf(which), show(es), got, first)
	}
	for _, more := range [][]api.Entry{nil, es, slices.Repeat(es[:got], 2), es[got : got+1], {{}, {What: api.MarkDone, Prog: 1}}} {
		if again := ask(t, which, c, slices.Concat(es[:got+1], more)); again != got {
			t.Errorf("P27.4: %s of %s is %d, of a longer log %d", nameOf(which), show(es), got, again)
		}
	}
}

// checkAll: All is the least of what the five answer.
func checkAll(t *testing.T, c api.Config, es []api.Entry) {
	t.Helper()
	want := -1
	for which := range audits {
		if at := ask(t, which, c, es); at >= 0 && (want < 0 || at < want) {
			want = at
		}
	}
	if got, e := audit.All(c, es...); got != want || e != api.OK {
		t.Errorf("P27.2: All of %s is %d, %v, want %d", show(es), got, e, want)
	}
}

// show is a log to be read in a message.
func show(es []api.Entry) string {
	if s, e := trace.Print(es...); e == api.OK && len(es) < 60 {
		return strings.ReplaceAll(s, "\n", "; ")
	}
	if len(es) < 12 {
		return strings.Join(each(es), "; ")
	}
	return "a log"
}

// each is each entry by itself, plain ones as lines.
func each(es []api.Entry) []string {
	var out []string
	for _, e := range es {
		s, no := trace.Print(e)
		if no != api.OK {
			s = "no plain entry " + trace.Name(e.What)
		}
		out = append(out, strings.TrimSpace(s))
	}
	return out
}

// TestExamples: the chapter's.
func TestExamples(t *testing.T) {
	whole := log(t, "call t0 c0; "+put+"; return t0 c0 x0 n0")
	for which := range audits {
		checkOne(t, which, one, whole, -1)
	}
	checkAll(t, one, whole)
	checkOne(t, calls, one, log(t, put), 0)
	checkOne(t, maps, one, log(t, put), -1)
	checkOne(t, maps, one, log(t, put+"; "+put), 1)
	checkOne(t, maps, one, log(t, put+"; apply t2 f0 c0 g0 e0 m0 o2 k3 w9 y0 b1 r9"), -1)
	checkOne(t, runs, one, log(t, "publish t3 h0 p1 v2; publish t3 h0 p1 v2"), 1)
	checkOne(t, grace, one, log(t, "loaded t3 p1; retired t3 p1; enter t1 h0 e1 p1 v1"), 2)
	two := one
	two.Ring = 2
	accepts := log(t, "accept t0 c0 h0 e1; accept t0 c1 h0 e2")
	checkOne(t, events, one, accepts, 1)
	checkOne(t, events, two, accepts, -1)
	checkAll(t, one, accepts)
	checkAll(t, two, accepts)
}

// TestNothing: of no entry nothing is wrong.
func TestNothing(t *testing.T) {
	for which := range audits {
		checkOne(t, which, one, nil, -1)
		checkOne(t, which, one, []api.Entry{}, -1)
	}
	checkAll(t, one, nil)
	checkAll(t, one, []api.Entry{})
	if audit.Calls() != -1 || audit.Runs() != -1 || audit.Grace() != -1 || audit.Events(1) != -1 {
		t.Error("P27.1: of no entry")
	}
}

// refused are configs that Maps and All refuse.
func refused() []api.Config {
	good, bad := api.MapDef{Cap: 2}, []api.MapDef{{}, {Cap: -1}, {Cap: 17}, {Cap: math.MaxInt}, {Cap: math.MinInt}, {Cap: 1<<32 + 1}, {Kind: 2, Cap: 1}, {Kind: -1, Cap: 1}, {Kind: 1 << 32, Cap: 1}, {Kind: math.MaxInt, Cap: 1}}
	var out []api.Config
	for _, shards := range []int{-1, 0, 5, math.MinInt, math.MaxInt, 1<<32 + 1, 257} {
		for _, ms := range [][]api.MapDef{nil, {good}, {good, good, good, good}} {
			out = append(out, api.Config{Workers: 1, Shards: shards, Hooks: 1, Ring: 1, Maps: ms})
		}
	}
	for _, b := range bad {
		for _, ms := range [][]api.MapDef{{b}, {b, good}, {good, b}, {good, good, good, b}, {good, b, good}} {
			out = append(out, api.Config{Workers: 1, Shards: 1, Hooks: 1, Ring: 1, Maps: ms})
		}
	}
	for many := 5; many < 8; many++ {
		out = append(out, api.Config{Workers: 1, Shards: 2, Hooks: 1, Ring: 1, Maps: slices.Repeat([]api.MapDef{good}, many)})
	}
	return append(out, api.Config{Shards: 1, Maps: make([]api.MapDef, 260)}, api.Config{})
}

// TestRefused: no place beside ErrArg, whatever the log.
func TestRefused(t *testing.T) {
	wrong := log(t, "end t0; call t0 c4; "+put+"; done t1 h0 e1 p1 v0 a0 n0; retired t3 p1; drop t3 h0 e1")
	for _, c := range refused() {
		for _, es := range [][]api.Entry{nil, wrong, wrong[:1], log(t, put), log(t, put+"; "+put)} {
			if at, e := audit.Maps(c, es...); at != 0 || e != api.ErrArg {
				t.Errorf("P27.1: Maps(%+v, ..) is %d, %v", c, at, e)
			}
			if at, e := audit.All(c, es...); at != 0 || e != api.ErrArg {
				t.Errorf("P27.2: All(%+v, ..) is %d, %v", c, at, e)
			}
		}
	}
}

// TestTaken: all configs whose shards and maps are right are taken, whatever else they say.
func TestTaken(t *testing.T) {
	for shards := 1; shards <= api.MaxShards; shards++ {
		for many := 0; many <= api.MaxMaps; many++ {
			for _, other := range []int{-1, 0, 1, 5, math.MinInt, math.MaxInt} {
				c := api.Config{Workers: other, Shards: shards, Hooks: other, Ring: other}
				for k := range many {
					c.Maps = append(c.Maps, api.MapDef{Kind: api.MapKind(k % 2), Cap: []int{1, 16, 16, 1}[k]})
				}
				for m := -1; m <= api.MaxMaps; m++ {
					e := api.Entry{What: api.MarkApply, Item: api.Item{Map: m, Op: api.MapPut, Key: 3}}
					want := -1
					if m < 0 || m >= many {
						want = 0
					}
					checkOne(t, maps, c, []api.Entry{e}, want)
				}
				checkAll(t, c, log(t, "call t0 c0; "+put+"; accept t0 c0 h0 e1"))
			}
		}
	}
}

// pieces are parts of a log each of which one audit finds wrong, at its last entry.
func pieces(t *testing.T) [][]api.Entry {
	return [][]api.Entry{
		log(t, "call t0 c0; apply t2 f0 c0 g0 e0 m9 o2 k3 w9 y0 b0 r0"),
		log(t, "call t1 c1"),
		log(t, "closed t9; done t7 h0 e1 p5 v0 a0 n0"),
		log(t, "loaded t3 p2; end t3; retired t3 p9"),
		log(t, "accept t0 c0 h5 e1; drop t3 h4 e1"),
	}
}

// orders are all lists of some of the numbers below many, each once at most.
func orders(many int, ahead ...int) [][]int {
	out := [][]int{ahead}
	for k := range many {
		if !slices.Contains(ahead, k) {
			out = append(out, orders(many, append(slices.Clip(ahead), k)...)...)
		}
	}
	return out
}

// TestSeveral: none, one or several audits find something, in any order.
func TestSeveral(t *testing.T) {
	parts := pieces(t)
	for _, order := range orders(audits) {
		var es []api.Entry
		want := [audits]int{-1, -1, -1, -1, -1}
		for _, which := range order {
			es = append(es, parts[which]...)
			want[which] = len(es) - 1
		}
		for which := range audits {
			checkOne(t, which, one, es, want[which])
		}
		least := -1
		if len(order) > 0 {
			least = want[order[0]]
		}
		if at, e := audit.All(one, es...); at != least || e != api.OK {
			t.Errorf("P27.2: All of %s is %d, %v, want %d", show(es), at, e, least)
		}
	}
}

// TestSame: two audits find one entry wrong.
func TestSame(t *testing.T) {
	apply := log(t, "end t1; "+put+"; "+put)
	checkOne(t, maps, one, apply, 2)
	checkOne(t, calls, one, apply, 1)
	checkAll(t, one, apply)
	both := log(t, "end t1; apply t2 f0 c0 g0 e0 m0 o2 k3 w9 y0 b1 r0")
	checkOne(t, maps, one, both, 1)
	checkOne(t, calls, one, both, 1)
	checkAll(t, one, both)
	enter := log(t, "enter t1 h0 e1 p1 v1")
	checkOne(t, runs, one, enter, 0)
	checkOne(t, grace, one, enter, 0)
	checkAll(t, one, enter)
}

// TestRing: of c All hands its Ring on to Events.
func TestRing(t *testing.T) {
	es := log(t, "accept t0 c0 h0 e1; accept t0 c1 h1 e2; accept t0 c2 h0 e3; accept t0 c3 h0 e4")
	for _, r := range []struct{ room, want int }{{math.MinInt, 0}, {-1, 0}, {0, 0}, {1, 2}, {2, 3}, {3, -1}, {16, -1}, {17, -1}, {math.MaxInt, -1}} {
		c := one
		c.Ring = r.room
		checkOne(t, events, c, es, r.want)
		if at, e := audit.All(c, es...); at != r.want || e != api.OK {
			t.Errorf("P27.2: All with a room of %d is %d, %v, want %d", r.room, at, e, r.want)
		}
	}
}
