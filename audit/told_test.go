package audit_test

import (
	"math/rand"
	"slices"
	"testing"

	"tappet/api"
	"tappet/audit"
)

// drawn is a source of numbers below a bound, the same for the same seed.
func drawn(seed int64) func(below int) int {
	return rand.New(rand.NewSource(seed)).Intn
}

// shapes are configs of all kinds, of few keys.
func shapes() []api.Config {
	return []api.Config{
		one,
		world,
		{Shards: 4, Ring: 3, Maps: []api.MapDef{{Kind: api.Bounded, Cap: 2}, {Kind: api.Plain, Cap: 1}, {Kind: api.Bounded, Cap: 1}, {Kind: api.Plain, Cap: 3}}},
		{Shards: 1, Ring: 16, Maps: []api.MapDef{{Kind: api.Bounded, Cap: 3}}},
		{Shards: 3, Ring: 2},
	}
}

// fresh is an entry of small numbers, of a mark that there is or of one beside them.
func fresh(source func(below int) int, marks []api.Mark) api.Entry {
	e := api.Entry{What: marks[source(len(marks))], Task: source(3), From: source(3), Cmd: source(3), Tag: source(4) / 3, Event: source(5), Hook: source(2), Prog: source(3), Version: source(4), Pc: source(2)}
	e.Item = api.Item{Map: source(2), Op: api.MapOp(source(5)), Key: uint64(source(5)), Val: uint64(source(3))}
	e.Res = api.Res{Found: source(2) == 0, Val: uint64(source(3))}
	return e
}

// derived is an entry like one ahead of it, of another mark.
func derived(source func(below int) int, marks []api.Mark, es []api.Entry) api.Entry {
	e := es[max(0, len(es)-1-source(6))]
	if e.What == api.MarkAsk && source(2) == 0 {
		e.From = e.Task
	}
	if e.What == api.MarkApply && source(2) == 0 {
		e.Task = e.From
	}
	if was := es[source(len(es))]; source(2) == 0 {
		e.Prog, e.Version, e.Pc = was.Prog, was.Version, was.Pc
	}
	e.What = marks[source(len(marks))]
	return e
}

// next is an entry to be told behind others: often one that is right by an audit, with what the maps answer.
func next(source func(below int) int, which int, c api.Config, marks []api.Mark, es []api.Entry) api.Entry {
	var e api.Entry
	for range 1 + source(40) {
		e = fresh(source, marks)
		if len(es) > 0 && source(3) > 0 {
			e = derived(source, marks, es)
		}
		if source(4) > 0 {
			e.Cmd, e.Tag = e.Cmd*source(2), 0
		}
		if r, ok := answer(c, es, e.Item); ok && e.What == api.MarkApply && source(8) > 0 {
			e.Res = r
		}
		if !wrong(which, c, es, e) {
			return e
		}
	}
	return e
}

// grown is a log of which an audit finds nothing wrong for a while.
func grown(source func(below int) int, which int, c api.Config) []api.Entry {
	marks := slices.Clone(marksOf(which))
	if source(2) == 0 {
		marks = append(marks, api.Mark(source(api.Marks+2)), api.Mark(source(api.Marks+2)))
	}
	var es []api.Entry
	for range 2 + source(28) {
		es = append(es, next(source, which, c, marks, es))
	}
	return es
}

// TestTold: logs as they come, of each audit's marks, held against the account.
func TestTold(t *testing.T) {
	var met, found, late [audits]int
	for seed := range int64(4000) {
		source := drawn(seed)
		which := int(seed) % audits
		c := shapes()[source(len(shapes()))]
		es := grown(source, which, c)
		met[which]++
		found[which] += checkTold(t, c, es)[which]
		if at := ask(t, which, c, es); at < 0 || at > 8 {
			late[which]++
		}
	}
	for which := range audits {
		if found[which] < met[which]/8 || late[which] < met[which]/5 {
			t.Errorf("%s: of %d logs %d are wrong, %d right for long", nameOf(which), met[which], found[which], late[which])
		}
	}
}

// short are the entries of which the logs of TestShort are.
func short(t *testing.T, which int) []api.Entry {
	return [][]api.Entry{
		log(t, "apply t2 f0 c0 g0 e0 m0 o2 k3 w9 y0 b0 r0; apply t2 f0 c0 g0 e0 m0 o3 k3 w9 y0 b1 r9; apply t2 f0 c0 g0 e0 m0 o2 k4 w9 y0 b0 r0; apply t2 f0 c0 g0 e0 m0 o0 k3 w0 y0 b1 r9; apply t2 f0 c0 g0 e0 m1 o2 k3 w9 y0 b0 r0; apply t2 f0 c0 g0 e0 m1 o4 k2 w9 y0 b0 r9 O3 V9"),
		log(t, "call t0 c0; return t0 c0 x0 n0; call t0 c1; apply t2 f0 c0 g1 e0 m0 o2 k3 w9 y0 b0 r0; ask t0 e7 p1 v1 a2 m0 o2 k3 w9; apply t2 f0 c0 g0 e7 m0 o2 k3 w9 y0 b0 r0; apply t2 f0 c0 g0 e7 m0 o2 k3 w9 y0 b0 r1; back t0 e7 p1 v1 a2 y0 b0 r0; ask t1 e7 p1 v1 a2 m0 o2 k3 w9"),
		log(t, "publish t3 h0 p1 v1; publish t3 h0 p1 v2; publish t3 h0 p1 v0; enter t1 h0 e4 p1 v1; enter t1 h0 e4 p1 v2; done t1 h0 e4 p1 v1 a0 n0; done t1 h0 e4 p0 v0 a0 n0; ran t1 e4 p1 v2 a0 n0; enter t2 h0 e4 p1 v1"),
		log(t, "loaded t3 p1; retired t3 p1; loaded t3 p2; retired t3 p2; enter t1 h0 e4 p1 v1; enter t2 h0 e4 p1 v1; enter t1 h0 e5 p2 v1; done t1 h0 e4 p1 v1 a0 n0; done t2 h0 e4 p1 v1 a0 n0; publish t3 h0 p1 v0"),
		log(t, "accept t0 c0 h0 e1; accept t0 c0 h1 e2; accept t0 c0 h0 e2; accept t0 c0 h0 e3; take t1 h0 e1; drop t1 h0 e2; take t1 h1 e2; drop t1 h0 e1; take t1 h0 e0"),
	}[which]
}

// TestShort: all logs of four of an audit's entries, held against the account.
func TestShort(t *testing.T) {
	for which := range audits {
		some, right := short(t, which), 0
		for n := range len(some) * len(some) * len(some) * len(some) {
			var es []api.Entry
			for range 4 {
				es, n = append(es, some[n%len(some)]), n/len(some)
			}
			want := told(readings()[0], which, world, es)
			if which == grace {
				want = readGrace(t, world, es)
			}
			if want < 0 {
				right++
			}
			if got := ask(t, which, world, es); got != want {
				t.Errorf("P27.1: %s of %s is %d, want %d", nameOf(which), show(es), got, want)
			}
		}
		if right < 8 {
			t.Errorf("%s: only %d logs are right", nameOf(which), right)
		}
	}
}

// FuzzTold looks for logs of which audit says otherwise than the account.
func FuzzTold(f *testing.F) {
	f.Add([]byte("tappet"))
	f.Add([]byte{0, 1, 2, 3, 250, 9, 9, 9, 9, 31, 7, 77, 0, 0, 0, 1})
	f.Fuzz(func(t *testing.T, data []byte) {
		place := 0
		source := func(below int) int {
			if place == len(data) {
				place = 0
			}
			if len(data) == 0 {
				return 0
			}
			place++
			return (int(data[place-1]) + place*31) % below
		}
		which := source(audits)
		c := shapes()[source(len(shapes()))]
		checkTold(t, c, grown(source, which, c))
	})
}

// TestAny: logs of entries of any numbers end, and are answered alike whenever they are asked of.
func TestAny(t *testing.T) {
	for seed := range int64(300) {
		source := drawn(seed)
		var es []api.Entry
		for range 1 + source(30) {
			e := api.Entry{What: api.Mark(source(22) - 2)}
			for _, letter := range letters {
				if os := others(e, letter); source(4) == 0 && len(os) > 0 {
					e = os[source(len(os))]
				}
			}
			es = append(es, e)
		}
		checkTold(t, shapes()[source(5)], es)
		for room := -2; room < 4; room++ {
			if got, want := audit.Events(room, es...), told(readings()[0], events, api.Config{Ring: room}, es); got != want {
				t.Errorf("P27.1: Events(%d) of %s is %d, want %d", room, show(es), got, want)
			}
		}
	}
}
