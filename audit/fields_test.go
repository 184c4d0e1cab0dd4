package audit_test

import (
	"math"
	"strings"
	"testing"

	"tappet/api"
)

// world is the config of the scenes below.
var world = api.Config{Shards: 2, Ring: 2, Maps: []api.MapDef{{Kind: api.Plain, Cap: 2}, {Kind: api.Bounded, Cap: 1}}}

// letters are those of all fields of an entry, as trace has them, and U for Res.Out.
const letters = "tfcgehpvanxmokwybrUOV"

// whole is a field of whole numbers, nil if the letter's field is none.
func whole(e *api.Entry, letter rune) *int {
	switch letter {
	case 't':
		return &e.Task
	case 'f':
		return &e.From
	case 'c':
		return &e.Cmd
	case 'g':
		return &e.Tag
	case 'e':
		return &e.Event
	case 'h':
		return &e.Hook
	case 'p':
		return &e.Prog
	case 'v':
		return &e.Version
	case 'a':
		return &e.Pc
	case 'm':
		return &e.Item.Map
	case 'o':
		return (*int)(&e.Item.Op)
	case 'x':
		return (*int)(&e.E)
	case 'y':
		return (*int)(&e.Res.E)
	}
	return nil
}

// long is a field of 64 bits, nil if the letter's field is none.
func long(e *api.Entry, letter rune) *uint64 {
	switch letter {
	case 'n':
		return &e.Val
	case 'k':
		return &e.Item.Key
	case 'w':
		return &e.Item.Val
	case 'r':
		return &e.Res.Val
	case 'O':
		return &e.Res.OutKey
	case 'V':
		return &e.Res.OutVal
	}
	return nil
}

// others are the entry with another number in one field: one too small, one too great, the ends of its kind, and such as are the same modulo 2^8, 2^16, 2^32 or in all bits but the highest.
func others(e api.Entry, letter rune) []api.Entry {
	var out []api.Entry
	add := func(set func(o *api.Entry)) {
		o := e
		if set(&o); o != e {
			out = append(out, o)
		}
	}
	if at := whole(&e, letter); at != nil {
		for _, n := range []int{*at - 1, *at + 1, *at + 256, *at + 65536, *at + 1<<32, ^*at, -*at, -1, 0, 99, math.MinInt, math.MaxInt} {
			add(func(o *api.Entry) { *whole(o, letter) = n })
		}
		return out
	}
	if at := long(&e, letter); at != nil {
		for _, n := range []uint64{*at - 1, *at + 1, *at + 256, *at + 65536, *at + 1<<32, *at + 1<<63, 0, 99, math.MaxInt64, math.MaxUint64} {
			add(func(o *api.Entry) { *long(o, letter) = n })
		}
		return out
	}
	if letter == 'b' {
		add(func(o *api.Entry) { o.Res.Found = !o.Res.Found })
	} else {
		add(func(o *api.Entry) { o.Res.Out = !o.Res.Out })
	}
	return out
}

// scene is an entry that is right behind those ahead of it: with another number in one of the strict fields it is wrong, whichever; some say for themselves what they do (see alike); all others may be any.
type scene struct {
	which        int
	ahead, entry string
	strict, some string
}

// runAhead is a task 1 in a run of program 1 by version 5 at hook 0, on event 4, and a task 2 in one of program 2 by version 6 at hook 1, on event 3.
const runAhead = "publish t3 h0 p1 v5; publish t3 h1 p2 v6; enter t2 h1 e3 p2 v6; enter t1 h0 e4 p1 v5"

// askAhead is an ask of task 4, behind one that was answered.
const askAhead = "ask t4 e7 p1 v1 a2 m1 o2 k5 w9; apply t9 f4 c0 g0 e7 m1 o2 k5 w9 y0 b0 r0; back t4 e7 p1 v1 a2 y0 b0 r0; ask t4 e8 p2 v3 a5 m1 o3 k4 w2"

// scenes are of each audit and each mark that it names.
func scenes() []scene {
	return []scene{
		{maps, "apply t2 f0 c0 g0 e0 m0 o2 k3 w9 y0 b0 r0", "apply t2 f0 c1 g0 e0 m0 o4 k3 w5 y0 b1 r14", "mokwybrUOV", ""},
		{maps, "apply t2 f0 c0 g0 e0 m1 o2 k3 w9 y0 b0 r0", "apply t2 f0 c1 g0 e0 m1 o4 k0 w5 y0 b0 r5 O3 V9", "mowybrUOV", "k"},
		{maps, "apply t2 f0 c0 g0 e0 m0 o2 k0 w9 y0 b0 r0; apply t2 f0 c0 g0 e0 m0 o2 k2 w8 y0 b0 r0", "apply t2 f0 c1 g0 e0 m0 o2 k3 w5 y40 b0 r0", "mybrUOV", "okw"},
		{maps, "", "apply t2 f7 c1 g3 e9 m0 o0 k5 w1 y0 b0 r0", "ybrUOV", "mokw"},
		{calls, "call t0 c0; return t0 c0 x0 n0; call t5 c0", "call t0 c1", "tc", ""},
		{calls, "call t3 c0; return t3 c0 x0 n0; call t3 c1; call t4 c0", "return t3 c1 x7 n9", "tc", ""},
		{calls, "call t3 c0; ask t5 e4 p1 v1 a2 m0 o0 k3 w0", "ask t4 e7 p1 v1 a2 m0 o0 k3 w0", "", "te"},
		{calls, "call t3 c0; return t3 c0 x0 n0; call t3 c1; ask t3 e9 p0 v0 a0 m1 o1 k1 w1", "apply t9 f3 c1 g5 e0 m1 o2 k3 w4 y0 b1 r2", "fce", ""},
		{calls, askAhead, "apply t9 f4 c0 g0 e8 m1 o3 k4 w2 y0 b1 r7", "fcgemokw", ""},
		{calls, askAhead + "; apply t9 f4 c0 g0 e8 m1 o3 k4 w2 y0 b1 r7", "back t4 e8 p2 v3 a5 y0 b1 r7", "tepvaybrUOV", ""},
		{calls, askAhead + "; apply t9 f4 c0 g0 e8 m1 o3 k4 w2 y40 b0 r7 O8 V2", "back t4 e8 p2 v3 a5 y40 b0 r7 O8 V2", "tepvaybrUOV", ""},
		{runs, "publish t3 h0 p1 v2; publish t3 h1 p1 v5", "publish t3 h0 p1 v6", "", "v"},
		{runs, "publish t3 h0 p1 v5; publish t3 h0 p7 v0", "publish t3 h0 p1 v6", "", "v"},
		{runs, "publish t3 h0 p1 v5", "publish t3 h0 p0 v0", "", "v"},
		{runs, "publish t3 h0 p1 v5; publish t3 h1 p2 v6; enter t2 h1 e3 p2 v6", "enter t1 h0 e4 p1 v5", "hpv", "t"},
		{runs, runAhead, "ran t1 e4 p1 v5 a3 n8", "tepv", ""},
		{runs, runAhead, "note t1 e4 p1 v5 a3 n8", "tepv", ""},
		{runs, runAhead, "ask t1 e4 p1 v5 a3 m1 o2 k3 w4", "tepv", ""},
		{runs, runAhead, "back t1 e4 p1 v5 a3 y0 b1 r7", "tepv", ""},
		{runs, runAhead, "done t1 h0 e4 p1 v5 a3 n8", "thepv", ""},
		{runs, runAhead + "; publish t3 h0 p2 v9", "done t1 h0 e4 p1 v5 a3 n8", "thepv", ""},
		{runs, runAhead + "; publish t3 h0 p1 v0", "done t7 h0 e9 p0 v0 a0 n0", "pv", "th"},
		{grace, "loaded t3 p4; loaded t3 p2; retired t3 p2", "loaded t3 p3", "", "p"},
		{grace, "loaded t3 p1; loaded t3 p2; enter t1 h0 e4 p2 v5", "retired t3 p1", "p", ""},
		{grace, "loaded t3 p1; loaded t3 p2; retired t3 p2", "publish t3 h0 p1 v5", "p", ""},
		{grace, "loaded t3 p1; loaded t3 p2; retired t3 p2", "publish t3 h0 p7 v0", "v", ""},
		{grace, "loaded t3 p1; loaded t3 p2; retired t3 p2", "enter t1 h0 e4 p1 v5", "p", ""},
		{grace, "loaded t3 p1; loaded t3 p2; retired t3 p2", "ran t1 e4 p1 v5 a3 n8", "p", ""},
		{grace, "loaded t3 p1; loaded t3 p2; retired t3 p2", "note t1 e4 p1 v5 a3 n8", "p", ""},
		{grace, "loaded t3 p1; loaded t3 p2; retired t3 p2", "ask t1 e4 p1 v5 a3 m1 o2 k3 w4", "p", ""},
		{grace, "loaded t3 p1; loaded t3 p2; retired t3 p2", "back t1 e4 p1 v5 a3 y0 b1 r7", "p", ""},
		{grace, "loaded t3 p1; loaded t3 p2; retired t3 p2", "done t1 h0 e4 p1 v5 a3 n8", "p", ""},
		{grace, "loaded t3 p1; loaded t3 p2; retired t3 p2", "done t1 h0 e4 p7 v0 a0 n0", "v", ""},
		{events, "accept t0 c0 h0 e1; accept t0 c1 h1 e2; accept t0 c2 h0 e3; take t1 h0 e1", "accept t0 c3 h0 e4", "e", ""},
		{events, "accept t0 c0 h0 e1; accept t0 c1 h1 e2; accept t0 c2 h0 e3; accept t0 c2 h1 e4", "accept t0 c3 h2 e5", "e", "h"},
		{events, "accept t0 c0 h0 e1; accept t0 c1 h1 e2; accept t0 c2 h0 e3", "take t1 h0 e1", "he", ""},
		{events, "accept t0 c0 h0 e1; accept t0 c1 h1 e2; accept t0 c2 h0 e3; take t1 h0 e1", "take t1 h0 e3", "he", ""},
		{events, "accept t0 c0 h0 e1; accept t0 c1 h1 e2; accept t0 c2 h0 e3", "drop t1 h0 e1", "he", ""},
		{events, "accept t0 c0 h0 e1; accept t0 c1 h1 e2; accept t0 c2 h0 e3; drop t1 h0 e1", "drop t1 h0 e3", "he", ""},
	}
}

// idle are entries that an audit passes over: of marks that it doesn't name or that there are not, with any number in a field.
func idle(which int) []api.Entry {
	var out []api.Entry
	full := api.Entry{Task: 1, From: 4, Cmd: 1, Tag: 2, Event: 4, Hook: 1, Prog: 2, Version: 6, Pc: 3, Item: api.Item{Map: 7, Op: 9, Key: 3, Val: 8}, Res: api.Res{E: 40, Found: true, Val: 5, Out: true, OutKey: 6, OutVal: 7}, Val: 9, E: 2}
	for m := api.Mark(-1); m <= api.Marks+2; m++ {
		if !names(which, m) {
			full.What = m
			out = append(out, full, api.Entry{What: m})
		}
	}
	for _, m := range []api.Mark{math.MinInt, math.MaxInt, 1<<32 + 3, 256 + 1, -api.MarkApply} {
		full.What = m
		out = append(out, full)
	}
	return out
}

// names: does an audit name the mark?
func names(which int, m api.Mark) bool {
	for _, named := range marksOf(which) {
		if m == named {
			return true
		}
	}
	return false
}

// placed checks an entry behind those ahead of it: alone, among entries that are passed over, and with more behind it.
func placed(t *testing.T, which int, ahead []api.Entry, e api.Entry, wrong bool) {
	t.Helper()
	idlers := idle(which)
	want := func(at int) int {
		if wrong {
			return at
		}
		return -1
	}
	plain := append(append([]api.Entry{}, ahead...), e)
	checkOne(t, which, world, plain, want(len(ahead)))
	checkOne(t, which, world, append(plain, idlers...), want(len(ahead)))
	var among []api.Entry
	for k, a := range ahead {
		among = append(among, idlers[k%len(idlers)], a)
	}
	among = append(among, idlers...)
	checkOne(t, which, world, append(among, e, idlers[0]), want(len(among)))
}

// TestFields: each field of each mark that an audit names, right and with each other number.
func TestFields(t *testing.T) {
	for _, s := range scenes() {
		ahead, e := log(t, s.ahead), log(t, s.entry)[0]
		placed(t, s.which, ahead, e, false)
		for _, letter := range letters {
			for _, o := range others(e, letter) {
				switch {
				case strings.ContainsRune(s.strict, letter):
					placed(t, s.which, ahead, o, true)
				case strings.ContainsRune(s.some, letter):
					placed(t, s.which, ahead, o, alike(t, s, o))
				default:
					placed(t, s.which, ahead, o, false)
				}
			}
		}
	}
}

// alike: is a scene's entry wrong, whose field is one of some?
func alike(t *testing.T, s scene, o api.Entry) bool {
	t.Helper()
	ahead := log(t, s.ahead)
	return wrong(s.which, world, ahead, o)
}

// TestPassedOver: entries of the marks that an audit doesn't name, of all scenes and with all numbers, are passed over.
func TestPassedOver(t *testing.T) {
	for which := range audits {
		var passed []api.Entry
		for _, s := range scenes() {
			for _, e := range append(log(t, s.ahead), log(t, s.entry)...) {
				if names(which, e.What) {
					continue
				}
				for _, letter := range letters {
					passed = append(passed, others(e, letter)...)
				}
			}
		}
		if len(passed) < 500 {
			t.Errorf("%s passes only %d over", nameOf(which), len(passed))
		}
		checkOne(t, which, world, passed, -1)
		for _, s := range scenes() {
			if s.which != which {
				continue
			}
			ahead, e := log(t, s.ahead), log(t, s.entry)
			checkOne(t, which, world, append(append(append(ahead, passed...), e...), passed...), -1)
		}
	}
}
