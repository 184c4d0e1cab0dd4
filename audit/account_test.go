package audit_test

import (
	"slices"
	"testing"

	"tappet/api"
	"tappet/place"
)

// The plain account of the chapter's section 'What is wrong': of each entry, by a look at all those ahead of it.

// shelf is a shard of a map: its pairs, the one that was touched longest ago first.
type shelf []api.Pair

// do is what a shard of a map answers, and how it is then.
func (s shelf) do(d api.MapDef, op api.MapOp, key, val uint64) (shelf, api.Res) {
	at := slices.IndexFunc(s, func(p api.Pair) bool { return p.Key == key })
	var r api.Res
	if at >= 0 {
		r = api.Res{Found: true, Val: s[at].Val}
	}
	switch op {
	case api.MapHas:
		return s, api.Res{Found: r.Found}
	case api.MapGet:
		val = r.Val
	case api.MapAdd:
		val += r.Val
		r.Val = val
	}
	if at >= 0 {
		s = slices.Delete(slices.Clone(s), at, at+1)
	}
	if op == api.MapDel || op == api.MapGet && at < 0 {
		return s, r
	}
	if at < 0 && len(s) == d.Cap {
		if d.Kind == api.Plain {
			return s, api.Res{E: api.ErrFull}
		}
		r.Out, r.OutKey, r.OutVal = true, s[0].Key, s[0].Val
		s = s[1:]
	}
	return append(slices.Clone(s), api.Pair{Key: key, Val: val}), r
}

// answer is what a config's maps answer to an item, behind those ahead of it; false, if there is no such map or operation.
func answer(c api.Config, ahead []api.Entry, i api.Item) (api.Res, bool) {
	if i.Map < 0 || i.Map >= len(c.Maps) || !slices.Contains([]api.MapOp{api.MapGet, api.MapHas, api.MapPut, api.MapDel, api.MapAdd}, i.Op) {
		return api.Res{}, false
	}
	var s shelf
	for _, a := range ahead {
		if a.What == api.MarkApply && a.Item.Map == i.Map && place.Of(a.Item.Key, c.Shards) == place.Of(i.Key, c.Shards) {
			s, _ = s.do(c.Maps[i.Map], a.Item.Op, a.Item.Key, a.Item.Val)
		}
	}
	_, r := s.do(c.Maps[i.Map], i.Op, i.Key, i.Val)
	return r, true
}

// count is how many of the entries are so.
func count(es []api.Entry, so func(a api.Entry) bool) int {
	n := 0
	for _, a := range es {
		if so(a) {
			n++
		}
	}
	return n
}

// last is the place of a task's last entry of one of two marks: is it of the first?
func last(es []api.Entry, task int, begin, end api.Mark) (int, bool) {
	for k, a := range slices.Backward(es) {
		if a.Task == task && (a.What == begin || a.What == end) {
			return k, a.What == begin
		}
	}
	return 0, false
}

// sort is what an entry tells of its run.
type sort struct{ event, prog, version int }

func sortOf(e api.Entry) sort {
	return sort{e.Event, e.Prog, e.Version}
}

func wrongByCalls(ahead []api.Entry, e api.Entry) bool {
	call, inCall := last(ahead, e.Task, api.MarkCall, api.MarkReturn)
	told, inAsk := last(ahead, e.Task, api.MarkAsk, api.MarkBack)
	switch e.What {
	case api.MarkCall:
		return inCall || e.Cmd != count(ahead, func(a api.Entry) bool { return a.What == api.MarkCall && a.Task == e.Task })
	case api.MarkReturn:
		return !inCall || ahead[call].Cmd != e.Cmd
	case api.MarkAsk:
		return inAsk || e.Event == 0
	case api.MarkApply:
		return wrongApply(ahead, e)
	case api.MarkBack:
		return !inAsk || sortOf(ahead[told]) != sortOf(e) || ahead[told].Pc != e.Pc || count(ahead[told:], func(a api.Entry) bool {
			return a.What == api.MarkApply && a.From == e.Task && a.Event == e.Event && a.Res == e.Res
		}) == 0
	}
	return false
}

func wrongApply(ahead []api.Entry, e api.Entry) bool {
	if e.Event == 0 {
		call, inCall := last(ahead, e.From, api.MarkCall, api.MarkReturn)
		return !inCall || ahead[call].Cmd != e.Cmd
	}
	told, inAsk := last(ahead, e.From, api.MarkAsk, api.MarkBack)
	if !inAsk || e.Cmd != 0 || e.Tag != 0 || ahead[told].Event != e.Event || ahead[told].Item != e.Item {
		return true
	}
	return count(ahead[told:], func(a api.Entry) bool {
		return a.What == api.MarkApply && a.From == e.From && a.Event == e.Event
	}) > 0
}

// at is the program and the version at a hook, zero if nothing is there.
func at(ahead []api.Entry, hook int) (int, int) {
	for _, a := range slices.Backward(ahead) {
		if a.What == api.MarkPublish && a.Hook == hook {
			if a.Version == 0 {
				return 0, 0
			}
			return a.Prog, a.Version
		}
	}
	return 0, 0
}

func wrongByRuns(ahead []api.Entry, e api.Entry) bool {
	prog, version := at(ahead, e.Hook)
	enter, in := last(ahead, e.Task, api.MarkEnter, api.MarkDone)
	switch e.What {
	case api.MarkPublish:
		return e.Version != 0 && count(ahead, func(a api.Entry) bool { return a.What == api.MarkPublish && a.Version >= e.Version }) > 0
	case api.MarkEnter:
		return in || e.Version == 0 || e.Prog != prog || e.Version != version
	case api.MarkRan, api.MarkNote, api.MarkAsk, api.MarkBack:
		return !in || sortOf(ahead[enter]) != sortOf(e)
	case api.MarkDone:
		if e.Version == 0 {
			return in || e.Prog != 0 || version != 0
		}
		return !in || sortOf(ahead[enter]) != sortOf(e) || ahead[enter].Hook != e.Hook
	}
	return false
}

// reading is how the chapter's "a task is in a run from its MarkEnter to its MarkDone" can be taken by Grace, which finds nothing wrong with a task that enters twice, nor with one that skips an event within a run: is it in the first run still, behind the second MarkEnter? Does the MarkDone of a skipped event end a run? The tests ask for no more than that one of the readings is kept to.
type reading struct {
	several, skips bool
}

func readings() []reading {
	return []reading{{false, false}, {false, true}, {true, false}, {true, true}}
}

// running: is a task in a run of the program?
func (r reading) running(ahead []api.Entry, prog int) bool {
	for k, a := range ahead {
		if a.What == api.MarkEnter && a.Prog == prog && count(ahead[k+1:], func(b api.Entry) bool {
			return b.Task == a.Task && (b.What == api.MarkEnter && !r.several || b.What == api.MarkDone && (b.Version != 0 || r.skips))
		}) == 0 {
			return true
		}
	}
	return false
}

func (r reading) wrongByGrace(ahead []api.Entry, e api.Entry) bool {
	loaded, retired := 0, 0
	for _, a := range ahead {
		if a.Prog == e.Prog && a.What == api.MarkLoaded {
			loaded++
		}
		if a.Prog == e.Prog && a.What == api.MarkRetired {
			retired++
		}
	}
	switch e.What {
	case api.MarkLoaded:
		return loaded > 0
	case api.MarkRetired:
		return loaded == 0 || retired > 0 || r.running(ahead, e.Prog)
	case api.MarkPublish, api.MarkDone:
		return e.Version != 0 && (loaded == 0 || retired > 0)
	case api.MarkEnter, api.MarkRan, api.MarkNote, api.MarkAsk, api.MarkBack:
		return loaded == 0 || retired > 0
	}
	return false
}

func wrongByEvents(room int, ahead []api.Entry, e api.Entry) bool {
	accepted, waiting := 0, []int{}
	for _, a := range ahead {
		if a.What == api.MarkAccept {
			accepted++
		}
		if a.What == api.MarkAccept && a.Hook == e.Hook {
			waiting = append(waiting, a.Event)
		}
		if a.What != api.MarkAccept && a.Hook == e.Hook {
			waiting = slices.DeleteFunc(waiting, func(n int) bool { return n == a.Event })
		}
	}
	if e.What == api.MarkAccept {
		return e.Event != accepted+1 || len(waiting) >= room
	}
	return len(waiting) == 0 || waiting[0] != e.Event
}

// wrong: is an entry wrong by an audit, behind right ones? Of Grace by the first of its readings.
func wrong(which int, c api.Config, ahead []api.Entry, e api.Entry) bool {
	return wrongAs(readings()[0], which, c, ahead, e)
}

func wrongAs(r reading, which int, c api.Config, ahead []api.Entry, e api.Entry) bool {
	if !names(which, e.What) {
		return false
	}
	switch which {
	case calls:
		return wrongByCalls(ahead, e)
	case runs:
		return wrongByRuns(ahead, e)
	case grace:
		return r.wrongByGrace(ahead, e)
	case events:
		ahead = slices.DeleteFunc(slices.Clone(ahead), func(a api.Entry) bool { return !names(events, a.What) })
		return wrongByEvents(c.Ring, ahead, e)
	}
	r0, ok := answer(c, ahead, e.Item)
	return !ok || r0 != e.Res
}

// told is the place of the first entry that is wrong by an audit, as a reading has it.
func told(r reading, which int, c api.Config, es []api.Entry) int {
	var ahead []api.Entry
	for k, e := range es {
		if !names(which, e.What) {
			continue
		}
		if wrongAs(r, which, c, ahead, e) {
			return k
		}
		ahead = append(ahead, e)
	}
	return -1
}

// checkTold holds all audits of a log against the account, and answers how many found something.
func checkTold(t *testing.T, c api.Config, es []api.Entry) [audits]int {
	t.Helper()
	var found [audits]int
	for which := range audits {
		want := told(readings()[0], which, c, es)
		if which == grace {
			want = readGrace(t, c, es)
		}
		checkOne(t, which, c, es, want)
		if want >= 0 {
			found[which]++
		}
	}
	checkAll(t, c, es)
	return found
}

// readGrace is what Grace answers by one of the readings, if it keeps to one.
func readGrace(t *testing.T, c api.Config, es []api.Entry) int {
	t.Helper()
	got := ask(t, grace, c, es)
	want := -1
	for _, r := range readings() {
		if want = told(r, grace, c, es); want == got {
			return want
		}
	}
	return want
}
