package host_test

import (
	"slices"
	"testing"

	"tappet/api"
	"tappet/host"
)

// full is a world that uses all lists that can be handed in.
func full(t *testing.T) world {
	t.Helper()
	c := api.Config{Workers: 2, Shards: 2, Hooks: 2, Ring: 3, Maps: []api.MapDef{{Cap: 2}, {Kind: api.Bounded, Cap: 2}}}
	return world{config: c, choices: []int{1, 5, 2, 0, 4, 4, 1, 0, 3, 2, 2}, scripts: [][]api.Cmd{
		{load(bytes(t, adds, 1)), attach(0, 1), fire(0, 3), batch(item(api.MapPut, 1, 1), item(api.MapPut, 2, 2)), drain(), walk(0), walk(1), closes()},
		{batch(item(api.MapAdd, 1, 7)), load(bytes(t, asks, 0)), attach(1, 2), fire(1, 1), swap(1, 1), retire(2), batch(item(api.MapGet, 1, 0), item(api.MapHas, 2, 0), item(api.MapDel, 3, 0))},
	}}
}

// spare is a copy of a list with spare room, which is full of this.
func spare[T any](list []T, junk T) []T {
	out := append(slices.Clone(list), junk, junk, junk)
	return out[:len(list)]
}

// roomy is a world that shares nothing with this one, and whose lists all have spare room.
func roomy(w world) world {
	junk := api.Cmd{Kind: api.CmdClose}
	out := world{config: w.config, choices: spare(w.choices, 1)}
	out.config.Maps = spare(w.config.Maps, api.MapDef{Cap: 9})
	for _, script := range w.scripts {
		var cmds []api.Cmd
		for _, cmd := range script {
			cmd.Items, cmd.Module = spare(cmd.Items, api.Item{Key: 5}), spare(cmd.Module, 7)
			cmds = append(cmds, cmd)
		}
		out.scripts = append(out.scripts, spare(cmds, junk))
	}
	out.scripts = spare(out.scripts, []api.Cmd{junk})
	return out
}

// over writes over a list, its spare room too.
func over[T any](list []T, junk T) {
	list = list[:cap(list)]
	for k := range list {
		list[k] = junk
	}
}

// spoil writes over all that a world is made of.
func spoil(w world) {
	for _, script := range w.scripts {
		for _, cmd := range script {
			over(cmd.Items, api.Item{Map: 1, Op: api.MapPut, Key: 77, Val: 77})
			over(cmd.Module, 99)
		}
		over(script, fire(0, 99))
	}
	over(w.scripts, []api.Cmd{closes()})
	over(w.config.Maps, api.MapDef{Kind: 9, Cap: 99})
	over(w.choices, 6)
}

// same tells whether two worlds are one, their lists' spare room too.
func (w world) same(o world) bool {
	sameCmd := func(x, y api.Cmd) bool {
		return x.Kind == y.Kind && x.Item == y.Item && x.Map == y.Map && x.Hook == y.Hook && x.Prog == y.Prog && x.Event == y.Event && slices.Equal(room(x.Items), room(y.Items)) && slices.Equal(room(x.Module), room(y.Module))
	}
	sameScript := func(x, y []api.Cmd) bool { return slices.EqualFunc(room(x), room(y), sameCmd) }
	return slices.EqualFunc(room(w.scripts), room(o.scripts), sameScript) && slices.Equal(room(w.config.Maps), room(o.config.Maps)) && slices.Equal(room(w.choices), room(o.choices))
}

// room is a list with its spare room, as far as something was put there.
func room[T any](list []T) []T {
	return list[:min(cap(list), len(list)+3)]
}

// TestHandedInStays: P25.5; New and Run change nothing of what they are handed.
func TestHandedInStays(t *testing.T) {
	w := roomy(full(t))
	was := roomy(w)
	h := made(t, w)
	h.Run(w.choices...)
	if !w.same(was) {
		t.Errorf("P25.5: it was handed %+v, and that is %+v now", was, w)
	}
}

// TestHandedInIsCopied: P25.5; what New and Run were handed may be written over, at any time.
func TestHandedInIsCopied(t *testing.T) {
	w := full(t)
	want := alone(t, w)
	for at := range len(want.tasks) + 1 {
		given := roomy(w)
		h := made(t, given)
		var got story
		for k := range len(want.tasks) {
			if k == at {
				spoil(given)
			}
			got.step(t, h, w, k)
		}
		if !got.same(want) {
			t.Fatalf("P25.5: what was handed in is written over ahead of step %d, and it tells something else", at)
		}
	}
	h := made(t, w)
	choices := slices.Clone(w.choices)
	h.Run(choices...)
	over(choices, 3)
	if other := made(t, w); other.Run(w.choices...) == 0 || !slices.Equal(other.Log(), h.Log()) {
		t.Error("P25.5: choices were written over, and it tells something else")
	}
}

// scribble writes over all that a host answers.
func scribble(h *host.Host, w world) {
	over(h.Ready(), 99)
	over(h.Ended(), 99)
	over(h.Log(), api.Entry{What: 99})
	over(h.Rings(), api.RingCounts{Accepted: 99})
	over(h.Tallies(), api.Tally{Runs: 99})
	over(h.Refs(), 99)
	for m := range w.config.Maps {
		ps, _ := h.Pairs(m)
		over(ps, api.Pair{Key: 99})
	}
	for c := range w.scripts {
		all := h.Answers(c)
		for _, a := range all {
			over(a.Res, api.Res{E: 99})
			over(a.Pairs, api.Pair{Key: 99})
		}
		over(all, api.Answer{E: 99})
	}
}

// TestAnswersAreNew: P25.5; what is answered may be written over, its spare room too, and nothing changes.
func TestAnswersAreNew(t *testing.T) {
	c := drawn(2551)
	for n := range 40 {
		w := full(t)
		if n > 0 {
			w = c.world(t, 14)
		}
		want, h := alone(t, w), made(t, w)
		var got story
		for at := range want.tasks {
			scribble(h, w)
			got.step(t, h, w, at)
			scribble(h, w)
		}
		if !got.same(want) {
			t.Fatalf("P25.5: its answers are written over, and it tells something else")
		}
	}
}

// TestAnswersShareNone: P25.5; no two lists of what is answered share memory, be it of one answer or of two.
func TestAnswersShareNone(t *testing.T) {
	w := full(t)
	h := made(t, w)
	h.Run(w.choices...)
	for c := range w.scripts {
		first, second := h.Answers(c), h.Answers(c)
		want := h.Answers(c)
		for k := range first {
			over(first[k].Res, api.Res{E: 99})
			over(first[k].Pairs, api.Pair{Key: 99})
			first[k] = want[k]
			if !sameAnswers(first, want) || !sameAnswers(second, want) {
				t.Fatalf("P25.5: the answers of client %d share a list with that of command %d", c, k)
			}
		}
		over(first, api.Answer{E: 99})
		if !sameAnswers(second, want) {
			t.Fatalf("P25.5: two lists of the answers of client %d are one", c)
		}
	}
	first, second := h.Log(), h.Log()
	over(first, api.Entry{})
	if slices.Equal(first, second) || !slices.Equal(second, h.Log()) {
		t.Error("P25.5: two logs are one")
	}
}

// TestAskingChangesNothing: rule 7; what is asked between the steps, of anything, changes nothing that is told later.
func TestAskingChangesNothing(t *testing.T) {
	c := drawn(2552)
	for range 40 {
		w := c.world(t, 14)
		h := made(t, w)
		h.Run(w.choices...)
		want := alone(t, w)
		if !slices.Equal(h.Log(), want.log) {
			t.Fatal("what is asked between the steps changes them")
		}
	}
}
