package audit_test

import (
	"math"
	"slices"
	"testing"

	"tappet/api"
	"tappet/audit"
)

// scribble writes over all of a list, its spare room too.
func scribble(es []api.Entry) {
	es = es[:cap(es)]
	for k := range es {
		es[k] = api.Entry{What: api.MarkCall, Task: -9, Cmd: 77}
	}
}

// TestHandedIn: logs and configs stay as they were, their spare room too, whatever was found.
func TestHandedIn(t *testing.T) {
	for seed := range int64(200) {
		source := drawn(seed)
		which := int(seed) % audits
		c := shapes()[source(len(shapes()))]
		c.Maps = append(append([]api.MapDef{}, c.Maps...), api.MapDef{Kind: 9, Cap: 9})
		spare := c.Maps
		c.Maps = spare[:len(spare)-1]
		whole := append(grown(source, which, c), grown(source, which, c)...)
		before, defs := slices.Clone(whole), slices.Clone(spare)
		for which := range audits {
			ask(t, which, c, whole[:len(whole)/2])
		}
		audit.All(c, whole[:len(whole)/2]...)
		c.Shards = 0
		audit.All(c, whole[:len(whole)/2]...)
		audit.Maps(c, whole[:len(whole)/2]...)
		if !slices.Equal(whole, before) || !slices.Equal(spare, defs) {
			t.Error("P27.4: what is handed in was changed")
		}
	}
}

// TestKept: what was handed in may be written over, and audits in turns answer as each alone.
func TestKept(t *testing.T) {
	type asked struct {
		c    api.Config
		es   []api.Entry
		want [audits]int
	}
	var all []asked
	for seed := range int64(60) {
		source := drawn(seed)
		a := asked{c: shapes()[source(len(shapes()))]}
		a.es = grown(source, int(seed)%audits, a.c)
		for which := range audits {
			a.want[which] = ask(t, which, a.c, a.es)
		}
		all = append(all, a)
	}
	for round := range 3 {
		for k := range all {
			a := all[(k*(7+round*4))%len(all)]
			es, c := slices.Clone(a.es), a.c
			c.Maps = slices.Clone(c.Maps)
			for which := range audits {
				if got := ask(t, (which+k)%audits, c, es); got != a.want[(which+k)%audits] {
					t.Errorf("P27.4: %s of %s is %d, and was %d", nameOf((which+k)%audits), show(es), got, a.want[(which+k)%audits])
				}
			}
			checkAll(t, c, es)
			scribble(es)
			for m := range c.Maps {
				c.Maps[m] = api.MapDef{Kind: 5, Cap: math.MinInt}
			}
		}
	}
}

// TestLong: long logs of many tasks, programs, hooks and events end soon.
func TestLong(t *testing.T) {
	const many = 30000
	var es []api.Entry
	c := api.Config{Shards: 1, Ring: math.MaxInt, Maps: []api.MapDef{{Cap: 1}}}
	for k := range many {
		es = append(es, api.Entry{What: api.MarkLoaded, Prog: k}, api.Entry{What: api.MarkPublish, Hook: k % 9, Prog: k, Version: k + 1},
			api.Entry{What: api.MarkEnter, Task: k, Hook: k % 9, Event: 5, Prog: k, Version: k + 1}, api.Entry{What: api.MarkAccept, Hook: k % 2, Event: k + 1},
			api.Entry{What: api.MarkCall, Task: k}, api.Entry{What: api.MarkApply, From: k, Item: api.Item{Op: api.MapGet}},
			api.Entry{What: api.MarkAsk, Task: k, Event: 5, Prog: k, Version: k + 1}, api.Entry{What: api.MarkApply, From: k, Event: 5})
	}
	for k := range many {
		es = append(es, api.Entry{What: api.MarkBack, Task: k, Event: 5, Prog: k, Version: k + 1}, api.Entry{What: api.MarkDone, Task: k, Hook: k % 9, Event: 5, Prog: k, Version: k + 1},
			api.Entry{What: api.MarkTake, Hook: k % 2, Event: k + 1}, api.Entry{What: api.MarkReturn, Task: k}, api.Entry{What: api.MarkRetired, Prog: k})
	}
	for which := range audits {
		if at := ask(t, which, c, es); at != -1 {
			t.Errorf("P27.1: %s of a long log is %d", nameOf(which), at)
		}
	}
	es = append(es, api.Entry{What: api.MarkRetired}, api.Entry{What: api.MarkReturn})
	if at, e := audit.All(c, es...); at != len(es)-2 || e != api.OK {
		t.Errorf("P27.2: All of a long log is %d, %v", at, e)
	}
}
