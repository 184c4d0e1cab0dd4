package audit_test

import (
	"slices"
	"strings"
	"testing"

	"tappet/api"
	"tappet/host"
	"tappet/lines"
	"tappet/wire"
)

// module is the bytes of a program, of lines with commas between them.
func module(t *testing.T, text string, maps ...int) []byte {
	t.Helper()
	code, n, e := lines.Parse(strings.ReplaceAll(text, ", ", "\n") + "\n")
	if e != api.OK {
		t.Fatalf("%q: line %d: %v", text, n, e)
	}
	b, e := wire.Encode(api.Module{Maps: maps, Code: code})
	if e != api.OK {
		t.Fatalf("%q: %v", text, e)
	}
	return b
}

// modules are good ones that do all that a program can tell of, and one that isn't good.
func modules(t *testing.T) [][]byte {
	t.Helper()
	return [][]byte{
		module(t, "field r2 0, map r1 0, set r3 5, call 4, exit r0", 0),
		module(t, "field r2 0, field r3 1, map r1 0, call 2, field r2 1, call 3, sub r0 r0 1, exit r0", 1),
		module(t, "field r2 0, map r1 1, call 1, jeq r0 1 3, set r3 1, call 4, exit r0, set r1 9, call 6, exit r0", 1, 0),
		module(t, "set r1 2, call 5, sub r1 r1 7, call 6, field r0 1, exit r0"),
		module(t, "set r0 3, exit r0"),
		module(t, "exit r0"),
	}
}

// command is one of any kind.
func command(source func(below int) int, programs [][]byte) api.Cmd {
	item := func() api.Item {
		return api.Item{Map: source(2), Op: api.MapOp(source(5)), Key: uint64(source(6)), Val: ^uint64(source(3))}
	}
	c := api.Cmd{Kind: []api.CmdKind{0, 0, 1, 2, 3, 3, 3, 3, 3, 4, 5, 6, 6, 7, 8, 8, 9, 10}[source(18)], Item: item(), Map: source(3), Hook: source(3), Prog: 1 + source(4)}
	c.Event = api.Event{A: uint64(source(6)), B: uint64(source(6))}
	switch c.Kind {
	case api.CmdBatch:
		for range source(4) {
			c.Items = append(c.Items, item())
		}
	case api.CmdLoad:
		c.Module = programs[source(len(programs))]
	case api.CmdClose:
		if source(4) > 0 {
			c.Kind = api.CmdFire
		}
	}
	return c
}

// hosted is a host of any shape and any scripts, its shape, and choices for its steps.
func hosted(t *testing.T, source func(below int) int, programs [][]byte) (*host.Host, api.Config, []int) {
	t.Helper()
	c := api.Config{Workers: 1 + source(4), Shards: 1 + source(4), Hooks: 1 + source(3), Ring: 1 + source(3)}
	c.Maps = []api.MapDef{{Kind: api.Bounded, Cap: 1 + source(2)}, {Kind: api.Plain, Cap: 1 + source(3)}}
	if source(10) == 0 {
		c.Maps = c.Maps[:source(2)]
	}
	var scripts [][]api.Cmd
	for range 1 + source(3) {
		script := []api.Cmd{{Kind: api.CmdLoad, Module: programs[source(5)]}, {Kind: api.CmdAttach, Hook: source(2), Prog: 1}}
		for range 4 + source(28) {
			script = append(script, command(source, programs))
		}
		scripts = append(scripts, script)
	}
	h, e := host.New(c, scripts...)
	if e != api.OK {
		t.Fatalf("New(%+v): %v", c, e)
	}
	var choices []int
	for range source(500) {
		choices = append(choices, source(1000))
	}
	return h, c, choices
}

// TestHosts: behind each step of a host all audits of its log find nothing.
func TestHosts(t *testing.T) {
	programs := modules(t)
	for seed := range int64(40) {
		h, c, choices := hosted(t, drawn(seed), programs)
		for ok := true; ok; {
			es := h.Log()
			for which := range audits {
				if at := ask(t, which, c, es); at != -1 {
					t.Fatalf("P27.3: %s of a host's log of %d entries is %d: %s", nameOf(which), len(es), at, show(es[max(0, at):at+1]))
				}
			}
			checkAll(t, c, es)
			if len(choices) > 0 {
				_, ok = h.Step(choices[0])
				choices = choices[1:]
			} else {
				_, ok = h.Fair()
			}
		}
	}
}

// TestWholeHosts: all audits of the log of a host that ran to its end find nothing, and enough of each mark was met.
func TestWholeHosts(t *testing.T) {
	programs := modules(t)
	met, outs, waited := map[api.Mark]int{}, 0, 0
	for seed := range int64(2000) {
		h, c, choices := hosted(t, drawn(seed), programs)
		h.Run(choices...)
		es := h.Log()
		for which := range audits {
			checkOne(t, which, c, es, -1)
		}
		checkAll(t, c, es)
		for k, e := range es {
			met[e.What]++
			if e.Res.Out {
				outs++
			}
			if e.What == api.MarkRetired && k > 0 && es[k-1].What == api.MarkDone {
				waited++
			}
		}
	}
	for m := api.Mark(1); m < api.Marks; m++ {
		if met[m] < 100 {
			t.Errorf("only %d entries of mark %d", met[m], m)
		}
	}
	if outs < 100 || waited < 50 {
		t.Errorf("only %d evictions, and %d retires that waited", outs, waited)
	}
}

// chosen is the place of an entry, one of a rare mark as often as of a frequent one.
func chosen(source func(below int) int, es []api.Entry) int {
	at, m := source(len(es)), api.Mark(1+source(api.Marks-1))
	for k := range es {
		if k = (at + k) % len(es); es[k].What == m {
			return k
		}
	}
	return at
}

// altered is a log with something wrong in it, perhaps: an entry left out, put in twice, changed in one field, or two changed about.
func altered(source func(below int) int, es []api.Entry) []api.Entry {
	es = slices.Clone(es)
	at := chosen(source, es)
	switch source(6) {
	case 0:
		return slices.Delete(es, at, at+1)
	case 1:
		return slices.Insert(es, source(len(es)), es[at])
	case 2:
		return slices.Insert(es, at, es[at])
	case 3:
		other := min(len(es)-1, at+1+source(8))
		es[at], es[other] = es[other], es[at]
		return es
	}
	letter := rune(letters[source(len(letters))])
	if os := others(es[at], letter); len(os) > 0 {
		es[at] = os[source(len(os))]
	}
	if where := whole(&es[at], letter); where != nil && source(2) == 0 {
		*where = source(5)
	}
	return es
}

// TestAltered: logs of hosts with something altered, held against the account.
func TestAltered(t *testing.T) {
	programs := modules(t)
	var found [audits]int
	for seed := range int64(800) {
		source := drawn(seed)
		h, c, choices := hosted(t, source, programs)
		h.Run(choices...)
		es := h.Log()
		for range 8 {
			for which, n := range checkTold(t, c, altered(source, es)) {
				found[which] += n
			}
		}
		checkTold(t, c, altered(source, altered(source, altered(source, es))))
	}
	for which, n := range found {
		if n < 80 {
			t.Errorf("%s: only %d of the logs are wrong", nameOf(which), n)
		}
	}
}

// TestEachOut: of a few hosts' logs each entry left out in turn, and each put in twice, held against the account.
func TestEachOut(t *testing.T) {
	programs := modules(t)
	for seed := range int64(6) {
		h, c, choices := hosted(t, drawn(1000+seed), programs)
		h.Run(choices...)
		es := h.Log()
		for at := range es {
			checkTold(t, c, slices.Delete(slices.Clone(es), at, at+1))
			checkTold(t, c, slices.Insert(slices.Clone(es), at, es[at]))
		}
	}
}
