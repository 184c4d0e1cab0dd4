package audit_test

import (
	"math"
	"strconv"
	"strings"
	"testing"

	"tappet/api"
)

// checkScene: an audit's answer to a log of lines.
func checkScene(t *testing.T, which int, c api.Config, text string, want int) {
	t.Helper()
	es := log(t, text)
	checkOne(t, which, c, es, want)
	checkAll(t, c, es)
	if which != grace && told(readings()[0], which, c, es) != want {
		t.Errorf("the account of %s has it otherwise", text)
	}
}

// TestItems: maps and operations that there are not.
func TestItems(t *testing.T) {
	for many := range api.MaxMaps + 1 {
		c := api.Config{Shards: 1}
		for range many {
			c.Maps = append(c.Maps, api.MapDef{Cap: 1})
		}
		for _, m := range []int{-1, 0, 1, 2, 3, 4, 5, 1 << 32, math.MaxInt, math.MinInt} {
			for _, op := range []api.MapOp{-1, 0, 1, 2, 3, 4, 5, 6, 1 << 32, 256, math.MaxInt, math.MinInt} {
				want := -1
				if m < 0 || m >= many || op < 0 || op > 4 {
					want = 1
				}
				es := []api.Entry{{What: api.MarkEnd}, {What: api.MarkApply, Item: api.Item{Map: m, Op: op, Key: 3}}}
				checkOne(t, maps, c, es, want)
				if want == 1 { // as the shard itself answers to no operation
					es[1].Res.E = api.ErrArg
					checkOne(t, maps, c, es, want)
				}
			}
		}
	}
}

// filled are puts of so many keys of one shard into map 0, and more operations on it.
func filled(c api.Config, many int, more ...api.Item) []api.Entry {
	var es []api.Entry
	for k := range many {
		es = append(es, api.Entry{What: api.MarkApply, Item: api.Item{Op: api.MapPut, Key: uint64(k), Val: uint64(100 + k)}})
	}
	for _, i := range more {
		e := api.Entry{What: api.MarkApply, Item: i}
		e.Res, _ = answer(c, es, i)
		es = append(es, e)
	}
	return es
}

// TestFull: each operation of each kind of map, where it has room for one key and for the most, full and not.
func TestFull(t *testing.T) {
	for _, kind := range []api.MapKind{api.Plain, api.Bounded} {
		for _, room := range []int{1, 2, 15, 16} {
			c := api.Config{Shards: 1, Maps: []api.MapDef{{Kind: kind, Cap: room}}}
			for many := range room + 1 {
				for op := range api.MapOp(api.MapOps) {
					for _, key := range []uint64{0, uint64(many) / 2, uint64(room), math.MaxUint64} {
						checkDone(t, c, filled(c, many, api.Item{Op: op, Key: key, Val: math.MaxUint64}, api.Item{Op: api.MapPut, Key: 99}, api.Item{Op: api.MapGet, Key: key}, api.Item{Op: api.MapAdd, Key: 98, Val: 1}))
					}
				}
			}
		}
	}
}

// checkDone: a log of applies is right, and wrong with any other field in the Res of each of its last ones.
func checkDone(t *testing.T, c api.Config, es []api.Entry) {
	t.Helper()
	if got := ask(t, maps, c, es); got != -1 {
		t.Errorf("P27.1: Maps(%+v) of %s is %d", c, show(es), got)
	}
	for at := max(0, len(es)-4); at < len(es); at++ {
		for _, letter := range "ybrUOV" {
			right := es[at]
			for _, o := range others(right, letter) {
				if es[at] = o; ask(t, maps, c, es) != at {
					t.Errorf("P27.1: Maps(%+v) of %s isn't %d", c, show(es), at)
				}
			}
			es[at] = right
		}
	}
}

// TestEvicted: what is evicted hangs on what was touched.
func TestEvicted(t *testing.T) {
	c := api.Config{Shards: 1, Maps: []api.MapDef{{Kind: api.Bounded, Cap: 2}}}
	const two = "apply t2 f0 c0 g0 e0 m0 o2 k3 w9 y0 b0 r0; apply t2 f0 c0 g0 e0 m0 o2 k4 w8 y0 b0 r0; "
	checkScene(t, maps, c, two+"apply t2 f0 c0 g0 e0 m0 o2 k5 w7 y0 b0 r0 O3 V9", -1)
	checkScene(t, maps, c, two+"apply t2 f0 c0 g0 e0 m0 o2 k5 w7 y0 b0 r0 O4 V8", 2)
	checkScene(t, maps, c, two+"apply t2 f0 c0 g0 e0 m0 o2 k5 w7 y0 b0 r0", 2)
	checkScene(t, maps, c, two+"apply t2 f0 c0 g0 e0 m0 o2 k5 w7 y40 b0 r0", 2)
	checkScene(t, maps, c, two+"apply t2 f0 c0 g0 e0 m0 o0 k3 w0 y0 b1 r9; apply t2 f0 c0 g0 e0 m0 o4 k5 w7 y0 b0 r7 O4 V8", -1)
	checkScene(t, maps, c, two+"apply t2 f0 c0 g0 e0 m0 o1 k3 w0 y0 b1 r0; apply t2 f0 c0 g0 e0 m0 o4 k5 w7 y0 b0 r7 O3 V9", -1)
	checkScene(t, maps, c, two+"end t2; apply t2 f0 c0 g0 e0 m0 o3 k3 w0 y0 b1 r9; apply t2 f0 c0 g0 e0 m0 o4 k5 w7 y0 b0 r7", -1)
	four := api.Config{Shards: 4, Maps: []api.MapDef{{Kind: api.Bounded, Cap: 1}, {Kind: api.Plain, Cap: 1}}}
	checkScene(t, maps, four, "apply t2 f0 c0 g0 e0 m0 o2 k0 w9 y0 b0 r0; apply t2 f0 c0 g0 e0 m0 o2 k1 w8 y0 b0 r0; apply t2 f0 c0 g0 e0 m0 o2 k3 w7 y0 b0 r0 O0 V9", -1)
	checkScene(t, maps, four, "apply t2 f0 c0 g0 e0 m1 o2 k0 w9 y0 b0 r0; apply t2 f0 c0 g0 e0 m1 o2 k1 w8 y0 b0 r0; apply t2 f0 c0 g0 e0 m1 o2 k3 w7 y40 b0 r0; apply t2 f0 c0 g0 e0 m0 o2 k3 w7 y0 b0 r0", -1)
}

// TestCallScenes: calls and asks, open and closed.
func TestCallScenes(t *testing.T) {
	const (
		call  = "call t0 c0; "
		back  = "back t0 e7 p1 v2 a3 y0 b0 r5; "
		asked = "ask t0 e7 p1 v2 a3 m0 o4 k3 w5; "
		apply = "apply t9 f0 c0 g0 e7 m0 o4 k3 w5 y0 b0 r5; "
	)
	for _, s := range []struct {
		text string
		want int
	}{
		{"call t0 c0; call t0 c1", 1},
		{"call t0 c0; call t0 c0", 1},
		{"call t0 c0; call t1 c0; call t0 c1", 2},
		{"call t0 c0; return t0 c0 x0 n0; call t0 c0", 2},
		{"call t0 c0; return t0 c0 x0 n0; call t0 c2", 2},
		{"call t0 c0; return t0 c0 x0 n0; call t1 c1", 2},
		{"call t0 c0; return t0 c0 x0 n0; call t1 c0; return t1 c0 x0 n0; call t0 c1; return t0 c1 x0 n0; call t0 c2", -1},
		{"return t0 c0 x0 n0", 0},
		{"return t0 c-1 x0 n0", 0},
		{"call t0 c0; return t0 c0 x0 n0; return t0 c0 x0 n0", 2},
		{"call t0 c0; return t1 c0 x0 n0", 1},
		{"call t-1 c0; return t-1 c0 x0 n0; call t-9223372036854775808 c0; call t9223372036854775807 c0; call t-1 c1; return t-9223372036854775808 c0 x0 n0", -1},
		{"call t-9223372036854775808 c0; return t9223372036854775807 c0 x0 n0", 1},
		{call + "apply t9 f0 c0 g0 e0 m0 o0 k0 w0 y0 b0 r0; apply t9 f0 c0 g1 e0 m0 o0 k0 w0 y0 b0 r0; return t0 c0 x0 n0; apply t9 f0 c0 g1 e0 m0 o0 k0 w0 y0 b0 r0", 4},
		{call + "apply t0 f9 c0 g0 e0 m0 o0 k0 w0 y0 b0 r0", 1},
		{"apply t9 f0 c-1 g0 e0 m0 o0 k0 w0 y0 b0 r0", 0},
		{call + "return t0 c0 x0 n0; apply t9 f0 c-1 g0 e0 m0 o0 k0 w0 y0 b0 r0", 2},
		{call + "apply t9 f0 c0 g0 e7 m0 o4 k3 w5 y0 b0 r5", 1},
		{"ask t0 e0 p1 v2 a3 m0 o4 k3 w5", 0},
		{"ask t0 e-1 p1 v2 a3 m0 o4 k3 w5; apply t9 f0 c0 g0 e-1 m0 o4 k3 w5 y0 b0 r5; back t0 e-1 p1 v2 a3 y0 b0 r5", -1},
		{asked + "ask t0 e8 p1 v2 a3 m0 o4 k3 w5", 1},
		{asked + "ask t1 e7 p1 v2 a3 m0 o4 k3 w5; apply t9 f1 c0 g0 e7 m0 o4 k3 w5 y0 b0 r5; back t1 e7 p1 v2 a3 y0 b0 r5; ask t0 e7 p1 v2 a3 m0 o4 k3 w5", 4},
		{asked + apply + back + asked + apply + back + asked + "end t0", -1},
		{asked + apply + apply + "end t0", 2},
		{asked + apply + back + apply + "end t0", 3},
		{asked + apply + back + asked + back + "end t0", 4},
		{asked + back + "end t0", 1},
		{asked + apply + back + back + "end t0", 3},
		{apply + asked + "end t0", 0},
		{asked + "apply t9 f1 c0 g0 e7 m0 o4 k3 w5 y0 b0 r5", 1},
		{asked + "ask t1 e7 p1 v2 a3 m0 o4 k3 w5; apply t9 f1 c0 g0 e7 m0 o4 k3 w5 y0 b0 r5; back t0 e7 p1 v2 a3 y0 b0 r5", 3},
		{asked + "ask t1 e7 p1 v2 a3 m0 o4 k3 w5; apply t9 f1 c0 g0 e7 m0 o4 k3 w5 y0 b0 r5; " + apply + back + "back t1 e7 p1 v2 a3 y0 b0 r5", -1},
		{"call t0 c0; " + asked + "apply t9 f0 c0 g1 e0 m0 o4 k3 w5 y0 b0 r5; " + back + "end t0", 3},
		{"call t0 c0; " + asked + "apply t9 f0 c0 g1 e0 m0 o4 k3 w5 y0 b0 r5; " + apply + back + "return t0 c0 x0 n0", -1},
		{"call t0 c0; " + asked + apply + "apply t9 f0 c0 g1 e0 m0 o4 k3 w5 y0 b0 r6; " + back + "return t0 c0 x0 n0", -1},
		{asked + apply + "call t0 c0; return t0 c0 x0 n0; " + back + "call t0 c1", -1},
		{asked + apply + "call t1 c0; ask t2 e7 p1 v2 a3 m0 o4 k3 w5; " + back + "return t1 c0 x0 n0; return t0 c0 x0 n0", 6},
	} {
		checkScene(t, calls, world, s.text, s.want)
	}
}

// TestRunScenes: what is at a hook, and who is in a run.
func TestRunScenes(t *testing.T) {
	const (
		publish = "publish t3 h0 p1 v2; "
		enter   = "enter t1 h0 e4 p1 v2; "
		done    = "done t1 h0 e4 p1 v2 a0 n0; "
		empty   = "publish t3 h0 p0 v0; "
	)
	for _, s := range []struct {
		text string
		want int
	}{
		{publish + "publish t3 h1 p1 v2", 1},
		{publish + "publish t3 h0 p2 v1", 1},
		{publish + empty + "publish t3 h0 p1 v2", 2},
		{publish + empty + "publish t3 h0 p1 v1", 2},
		{publish + empty + "publish t3 h0 p1 v3", -1},
		{publish + empty + empty + "publish t3 h1 p0 v0", -1},
		{empty + "publish t3 h1 p1 v-1", 1},
		{"publish t3 h0 p1 v-5; publish t3 h0 p1 v-4; publish t3 h0 p1 v0; publish t3 h0 p1 v-3", 3},
		{"publish t3 h0 p1 v-5; publish t3 h0 p1 v-5", 1},
		{"publish t3 h0 p1 v-9223372036854775808; publish t3 h0 p1 v-9223372036854775808", 1},
		{"publish t3 h0 p1 v-9223372036854775808; publish t3 h0 p1 v9223372036854775807; enter t1 h0 e4 p1 v9223372036854775807", -1},
		{"publish t3 h-1 p-7 v-5; enter t-1 h-1 e-4 p-7 v-5; ran t-1 e-4 p-7 v-5 a0 n0; done t-1 h-1 e-4 p-7 v-5 a0 n0", -1},
		{"publish t3 h9223372036854775807 p0 v1; enter t1 h9223372036854775807 e0 p0 v1; done t1 h9223372036854775807 e0 p0 v1 a0 n0", -1},
		{"enter t1 h0 e4 p0 v0", 0},
		{"publish t3 h0 p5 v0; enter t1 h0 e4 p5 v0", 1},
		{"enter t1 h0 e4 p1 v1", 0},
		{publish + empty + enter + "end t1", 2},
		{publish + "publish t3 h0 p2 v3; " + enter + "end t1", 2},
		{publish + "publish t3 h1 p2 v3; " + enter + "end t1", -1},
		{publish + enter + enter + "end t1", 2},
		{publish + enter + "enter t2 h0 e4 p1 v2", -1},
		{publish + enter + "enter t1 h0 e5 p1 v2", 2},
		{publish + enter + done + "enter t1 h0 e5 p1 v2; note t1 e5 p1 v2 a0 n0; done t1 h0 e5 p1 v2 a0 n0; done t1 h0 e5 p1 v2 a0 n0", 6},
		{publish + enter + done + done + "end t1", 3},
		{publish + enter + done + "ran t1 e4 p1 v2 a0 n0", 3},
		{publish + enter + done + "back t1 e4 p1 v2 a0 y0 b0 r0", 3},
		{publish + enter + "publish t3 h0 p2 v3; ran t1 e4 p1 v2 a0 n0; ask t1 e4 p1 v2 a0 m0 o0 k0 w0; " + empty + "back t1 e4 p1 v2 a0 y0 b0 r0; " + done + "done t1 h0 e9 p0 v0 a0 n0", -1},
		{publish + enter + "publish t3 h0 p2 v3; ran t1 e4 p2 v3 a0 n0", 3},
		{publish + "done t1 h0 e4 p0 v0 a0 n0", 1},
		{publish + "done t1 h1 e4 p0 v0 a0 n0", -1},
		{publish + enter + "done t1 h1 e4 p0 v0 a0 n0", 2},
		{publish + enter + "done t2 h1 e4 p0 v0 a0 n0; " + done + "done t1 h1 e5 p0 v0 a0 n0", -1},
		{"done t1 h1 e4 p1 v0 a0 n0", 0},
		{"done t1 h1 e4 p0 v0 a0 n0; done t1 h1 e4 p0 v0 a3 n7", -1},
		{"publish t3 h0 p7 v0; done t1 h0 e4 p0 v0 a0 n0", -1},
		{"publish t3 h0 p7 v0; done t1 h0 e4 p7 v0 a0 n0", 1},
		{"done t1 h0 e4 p1 v2 a0 n0", 0},
		{publish + "done t1 h0 e4 p1 v2 a0 n0", 1},
		{publish + "ran t1 e4 p1 v2 a0 n0", 1},
		{"ask t1 e0 p0 v0 a0 m0 o0 k0 w0", 0},
	} {
		checkScene(t, runs, world, s.text, s.want)
	}
}

// TestGraceScenes: programs that are loaded, in runs, and retired.
func TestGraceScenes(t *testing.T) {
	const (
		loaded = "loaded t3 p1; loaded t3 p2; "
		enter  = "enter t1 h0 e4 p1 v2; "
		done   = "done t1 h0 e4 p1 v2 a0 n0; "
	)
	for _, s := range []struct {
		text string
		want int
	}{
		{loaded + "loaded t3 p1", 2},
		{loaded + "loaded t4 p2", 2},
		{loaded + "retired t3 p1; loaded t3 p1", 3},
		{loaded + "retired t3 p1; retired t3 p1", 3},
		{loaded + "retired t3 p2; retired t3 p1", -1},
		{loaded + "retired t3 p3", 2},
		{"retired t3 p0", 0},
		{"loaded t3 p0; retired t3 p0; loaded t3 p-1; loaded t3 p-9223372036854775808; loaded t3 p9223372036854775807; retired t3 p-9223372036854775808", -1},
		{loaded + enter + "retired t3 p1", 3},
		{loaded + enter + "retired t3 p2", -1},
		{loaded + enter + done + "retired t3 p1", -1},
		{loaded + enter + "enter t2 h0 e5 p1 v2; " + done + "retired t3 p1", 5},
		{loaded + enter + "enter t2 h0 e5 p1 v2; " + done + "done t2 h0 e5 p1 v2 a0 n0; retired t3 p1", -1},
		{loaded + enter + "enter t2 h0 e5 p2 v2; " + done + "retired t3 p1; retired t3 p2", 6},
		{loaded + enter + done + enter + "retired t3 p1", 5},
		{loaded + enter + done + done + enter + done + "retired t3 p1", -1},
		{loaded + enter + enter + "retired t3 p1", 4},
		{loaded + done + "retired t3 p1", -1},
		{loaded + done + enter + "retired t3 p1", 4},
		{loaded + enter + "done t2 h0 e4 p1 v2 a0 n0; retired t3 p1", 4},
		{loaded + "enter t-1 h0 e4 p1 v2; enter t1 h0 e4 p2 v2; done t1 h0 e4 p2 v2 a0 n0; retired t3 p2; retired t3 p1", 6},
		{loaded + "retired t3 p1; " + enter + "end t0", 3},
		{loaded + "retired t3 p1; publish t3 h0 p1 v2", 3},
		{loaded + "retired t3 p1; publish t3 h0 p1 v0; publish t3 h0 p9 v0", -1},
		{loaded + "retired t3 p1; ran t1 e4 p1 v2 a0 n0", 3},
		{loaded + "retired t3 p1; note t1 e4 p1 v2 a0 n0", 3},
		{loaded + "retired t3 p1; ask t1 e4 p1 v2 a0 m0 o0 k0 w0", 3},
		{loaded + "retired t3 p1; back t1 e4 p1 v2 a0 y0 b0 r0", 3},
		{loaded + "retired t3 p1; " + done + "end t1", 3},
		{loaded + "retired t3 p1; done t1 h0 e4 p1 v0 a0 n0; done t1 h0 e4 p0 v0 a0 n0", -1},
		{loaded + "retired t3 p1; ran t1 e4 p1 v0 a0 n0", 3},
		{loaded + "retired t3 p1; enter t1 h0 e4 p1 v0", 3},
		{loaded + "ran t1 e4 p2 v2 a0 n0; note t1 e4 p1 v0 a0 n0; publish t3 h0 p2 v9; publish t3 h0 p2 v9", -1},
		{"publish t3 h0 p0 v1", 0},
		{"ran t1 e4 p0 v0 a0 n0", 0},
	} {
		checkScene(t, grace, world, s.text, s.want)
		if got := readGrace(t, world, log(t, s.text)); got != s.want {
			t.Errorf("the account of %s is %d", s.text, got)
		}
	}
}

// TestEventScenes: events that wait at several hooks.
func TestEventScenes(t *testing.T) {
	const three = "accept t0 c0 h0 e1; accept t0 c0 h1 e2; accept t0 c0 h0 e3; "
	for _, s := range []struct {
		text string
		want int
	}{
		{three + "accept t0 c0 h0 e4", 3},
		{three + "accept t0 c0 h1 e4; accept t0 c0 h1 e5", 4},
		{three + "take t1 h0 e1; accept t0 c0 h0 e4; accept t0 c0 h0 e5", 5},
		{three + "drop t1 h0 e1; accept t0 c0 h0 e4; accept t0 c0 h0 e5", 5},
		{three + "take t1 h1 e2; accept t0 c0 h0 e4", 4},
		{three + "take t1 h1 e2; take t1 h0 e1; drop t1 h0 e3; take t1 h0 e3", 6},
		{three + "take t1 h0 e3", 3},
		{three + "drop t1 h0 e3", 3},
		{three + "take t1 h0 e2", 3},
		{three + "drop t1 h1 e1", 3},
		{three + "take t1 h0 e1; drop t1 h0 e1", 4},
		{three + "drop t1 h0 e1; take t1 h0 e3; drop t1 h1 e2; take t1 h1 e0", 6},
		{three + "accept t0 c0 h2 e3", 3},
		{three + "accept t0 c0 h2 e5", 3},
		{three + "accept t0 c0 h2 e1", 3},
		{three + "accept t0 c0 h-1 e4; accept t0 c0 h9223372036854775807 e5; drop t0 h-1 e4; accept t0 c0 h-9223372036854775808 e6; take t0 h9223372036854775807 e5", -1},
		{"accept t0 c0 h0 e0", 0},
		{"accept t0 c0 h0 e-1", 0},
		{"accept t0 c0 h0 e2", 0},
		{"take t0 h0 e0", 0},
		{"drop t0 h0 e0", 0},
		{"accept t0 c0 h0 e1; take t1 h0 e1; take t1 h0 e0", 2},
		{"accept t0 c0 h0 e1; take t1 h0 e1; accept t0 c0 h0 e1", 2},
		{"accept t0 c0 h0 e1; take t1 h0 e1; accept t0 c0 h0 e2; take t1 h0 e2; accept t0 c0 h0 e3; drop t3 h0 e3", -1},
	} {
		checkScene(t, events, world, s.text, s.want)
	}
}

// TestRooms: a hook has room for so many events, whatever the room.
func TestRooms(t *testing.T) {
	var lines []string
	for k := 1; k <= 40; k++ {
		lines = append(lines, "accept t0 c0 h3 e"+strconv.Itoa(k))
	}
	es := log(t, strings.Join(lines, "; "))
	for _, room := range []int{math.MinInt, -40, -1, 0, 1, 2, 15, 16, 17, 39, 40, 41, 1 << 32, math.MaxInt} {
		want := max(0, room)
		if room >= len(es) {
			want = -1
		}
		checkOne(t, events, api.Config{Shards: 1, Ring: room}, es, want)
	}
}
