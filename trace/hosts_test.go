package trace_test

import (
	"slices"
	"strings"
	"testing"

	"tappet/api"
	"tappet/host"
	"tappet/lines"
	"tappet/trace"
	"tappet/wire"
)

// module is the bytes of a program, of lines with commas between them.
func module(t *testing.T, text string, maps ...int) []byte {
	t.Helper()
	code, n, e := lines.Parse(strings.ReplaceAll(text, ", ", "\n") + "\n")
	if e != api.OK {
		t.Fatalf("%q: line %d: %v", text, n, e)
	}
	b, e := wire.Encode(api.Module{Maps: maps, Code: code})
	if e != api.OK {
		t.Fatalf("%q: %v", text, e)
	}
	return b
}

// modules are good ones that do all that a program can tell of, and one that isn't good.
func modules(t *testing.T) [][]byte {
	t.Helper()
	return [][]byte{
		module(t, "field r2 0, map r1 0, set r3 5, call 4, exit r0", 0),
		module(t, "field r2 0, field r3 1, map r1 0, call 2, field r2 1, call 3, sub r0 r0 1, exit r0", 1),
		module(t, "field r2 0, map r1 1, call 1, jeq r0 1 3, set r3 1, call 4, exit r0, set r1 9, call 6, exit r0", 1, 0),
		module(t, "set r1 2, call 5, sub r1 r1 7, call 6, field r0 1, exit r0"),
		module(t, "exit r0"),
	}
}

// command is one of any kind.
func command(source func(below int) int, programs [][]byte) api.Cmd {
	item := func() api.Item {
		return api.Item{Map: source(2), Op: api.MapOp(source(5)), Key: uint64(source(6)), Val: ^uint64(source(3))}
	}
	c := api.Cmd{Kind: []api.CmdKind{0, 0, 1, 2, 3, 3, 3, 3, 4, 4, 5, 5, 6, 7, 8, 9, 10}[source(17)], Item: item(), Map: source(3), Hook: source(2), Prog: source(4)}
	c.Event = api.Event{A: uint64(source(6)), B: uint64(source(6))}
	switch c.Kind {
	case api.CmdBatch:
		for range source(4) {
			c.Items = append(c.Items, item())
		}
	case api.CmdLoad:
		c.Module = programs[source(len(programs))]
	case api.CmdClose:
		if source(3) > 0 {
			c.Kind = api.CmdFire
		}
	}
	return c
}

// ran is the log of a host of any shape and any scripts, run by any choices.
func ran(t *testing.T, source func(below int) int, programs [][]byte) []api.Entry {
	t.Helper()
	shape := api.Config{Workers: 1 + source(3), Shards: 1 + source(3), Hooks: 2, Ring: 1 + source(3)}
	shape.Maps = []api.MapDef{{Kind: api.Bounded, Cap: 1 + source(2)}, {Kind: api.Plain, Cap: 1 + source(3)}}
	var scripts [][]api.Cmd
	for range 1 + source(3) {
		script := []api.Cmd{{Kind: api.CmdLoad, Module: programs[source(4)]}, {Kind: api.CmdAttach, Hook: source(2), Prog: 1}}
		for range source(20) {
			script = append(script, command(source, programs))
		}
		scripts = append(scripts, script)
	}
	h, e := host.New(shape, scripts...)
	if e != api.OK {
		t.Fatalf("New(%+v): %v", shape, e)
	}
	var choices []int
	for range source(400) {
		choices = append(choices, source(1000))
	}
	h.Run(choices...)
	return h.Log()
}

// TestHosts: the logs of hosts are plain, and are printed, parsed and back, line by line as the account has it.
func TestHosts(t *testing.T) {
	programs := modules(t)
	met, outs := map[api.Mark]int{}, 0
	for seed := range int64(500) {
		log := ran(t, drawn(seed), programs)
		text, e := trace.Print(log...)
		if e != api.OK || !trace.Plain(log...) {
			t.Fatalf("P26.2: the log of seed %d isn't plain: %v", seed, e)
		}
		checkText(t, text)
		checkParse(t, text, log, 0, api.OK)
		told, n, e := account(t, text)
		if !slices.Equal(told, log) || n != 0 || e != api.OK {
			t.Errorf("P26.2: the log of seed %d is printed wrongly", seed)
		}
		for _, o := range log {
			met[o.What]++
			if o.Res.Out {
				outs++
			}
		}
		checkParts(t, log)
	}
	for _, s := range shapes {
		if met[s.mark] < 40 {
			t.Errorf("only %d entries of %s", met[s.mark], s.name)
		}
	}
	if outs < 40 {
		t.Errorf("only %d evictions", outs)
	}
}

// checkParts: every entry of a log is of one mark and of one task.
func checkParts(t *testing.T, log []api.Entry) {
	t.Helper()
	marks, tasks, several := 0, 0, 0
	for m := range api.Mark(api.Marks) {
		marks += len(trace.Only(log, m))
	}
	for task := range 16 {
		tasks += len(trace.Of(log, task))
		several += len(trace.Of(trace.Only(log, api.MarkCall, api.MarkReturn), task))
	}
	if marks != len(log) || tasks != len(log) || several != len(trace.Only(log, api.MarkReturn, api.MarkCall)) {
		t.Errorf("P26.4: of %d entries %d by marks, %d by tasks", len(log), marks, tasks)
	}
}
