package host_test

import (
	"slices"
	"testing"

	"tappet/api"
	"tappet/cmap"
	"tappet/engine"
	"tappet/place"
	"tappet/scratch"
	"tappet/wire"
)

// tale is a whole run of a host, as far as it can be told from outside: its world, its log, what could be read of it behind each step (and at its beginning), and how long the log was then.
type tale struct {
	world
	log   []api.Entry
	views []view
	lens  []int
	end   view
}

// tales are whole runs of many hosts.
func tales(t *testing.T, seed int64, many int) []tale {
	t.Helper()
	c := drawn(seed)
	var out []tale
	for range many {
		w := c.world(t, 16)
		h, s := made(t, w), tale{world: w}
		for ok := true; ok; {
			n := len(s.views)
			if n > w.bound() {
				t.Fatalf("P4: behind %d steps it hasn't ended", n)
			}
			s.views, s.log = append(s.views, look(t, h, w)), h.Log()
			s.lens = append(s.lens, len(s.log))
			step := h.Fair
			if n < len(w.choices) {
				step = func() (int, bool) { return h.Step(w.choices[n]) }
			}
			_, ok = step()
		}
		s.end = s.views[len(s.views)-1]
		out = append(out, s)
	}
	return out
}

// bound is more than the steps that a world's scripts can give: of each command its issue, its return, what owners and the registry do of it, and of an event its run, with a request and a reply at each instruction; and an end of each task.
func (w world) bound() int {
	n := 16 + len(w.choices)
	for _, script := range w.scripts {
		for _, cmd := range script {
			n += 4 + 16
			if cmd.Kind == api.CmdFire {
				n += 3 * (api.MaxCost + 1)
			}
		}
	}
	return n
}

// find is the place of the first entry from a place on that is so, or the log's length.
func (s tale) find(from int, so func(e api.Entry) bool) int {
	if at := slices.IndexFunc(s.log[from:], so); at >= 0 {
		return from + at
	}
	return len(s.log)
}

// issued is a command: whose it is, and where in the log it was called and has returned.
type issued struct {
	client, cmd  int
	called, back int
	api.Cmd
	with api.Answer
}

// all are the commands of a tale.
func (s tale) all() []issued {
	var out []issued
	for at, e := range s.log {
		if e.What != api.MarkCall {
			continue
		}
		back := s.find(at, func(o api.Entry) bool { return o.What == api.MarkReturn && o.Task == e.Task && o.Cmd == e.Cmd })
		i := issued{client: e.Task, cmd: e.Cmd, called: at, back: back, Cmd: s.scripts[e.Task][e.Cmd]}
		if e.Cmd < len(s.end.answers[e.Task]) {
			i.with = s.end.answers[e.Task][e.Cmd]
		}
		out = append(out, i)
	}
	return out
}

// event is one that was accepted, and where in the log that and all else of it is; takes, enters and ends may be the log's length.
type event struct {
	number, hook               int
	accepted, taken, ent, done int
	api.Event
}

// events are those of a tale.
func (s tale) events() []event {
	var out []event
	for at, e := range s.log {
		if e.What != api.MarkAccept {
			continue
		}
		of := func(what ...api.Mark) int {
			return s.find(at, func(o api.Entry) bool { return o.Event == e.Event && slices.Contains(what, o.What) })
		}
		out = append(out, event{number: e.Event, hook: e.Hook, accepted: at, taken: of(api.MarkTake), ent: of(api.MarkEnter), done: of(api.MarkDone, api.MarkDrop), Event: s.scripts[e.Task][e.Cmd].Event})
	}
	return out
}

// TestItEnds: P4; every run ends within as many steps as its scripts give, every command is answered, every accepted event is run to its end, found no program, or was dropped; and behind a close all others have ended.
func TestItEnds(t *testing.T) {
	for _, s := range tales(t, 4, 250) {
		closed, want := false, []int(nil)
		for c, script := range s.scripts {
			if len(s.end.answers[c]) != len(script) {
				t.Fatalf("P4: client %d has %d of %d answers", c, len(s.end.answers[c]), len(script))
			}
		}
		for _, i := range s.all() {
			if i.back == len(s.log) || s.log[i.back].E != i.with.E || s.log[i.back].Val != uint64(i.with.N) {
				t.Fatalf("P4: %+v doesn't return", i)
			}
			closed = closed || i.Kind == api.CmdClose && i.with.E == api.OK
		}
		for _, e := range s.events() {
			if e.done == len(s.log) {
				t.Fatalf("P4: %+v has no end", e)
			}
		}
		if closed {
			for n := range s.config.Workers + s.config.Shards + 1 {
				want = append(want, len(s.scripts)+n)
			}
		}
		if !slices.Equal(s.end.ended, want) || !s.end.quiet || len(s.end.ready) > 0 {
			t.Fatalf("P4: ended are %v, want %v (closed: %v)", s.end.ended, want, closed)
		}
	}
}

// TestLinearizable: P5; the operations that owners did, in their order, are answered as the abstract maps answer them; each stands between its call and its return (or its asking and its answer), once; and its answer is the one that was told. What a walk tells of a shard is what that held at some moment between.
func TestLinearizable(t *testing.T) {
	for _, s := range tales(t, 5, 250) {
		var maps []*cmap.Map
		for _, d := range s.config.Maps {
			m, _ := cmap.New(d, s.config.Shards)
			maps = append(maps, m)
		}
		walks := s.walks()
		for at, e := range s.log {
			see(walks, at, maps)
			if e.What != api.MarkApply {
				continue
			}
			if res := maps[e.Item.Map].Do(e.Item.Op, e.Item.Key, e.Item.Val); res != e.Res || e.Task != s.owner(e.Item.Key) {
				t.Fatalf("P5: %+v, want %+v", e, res)
			}
			if e.Event > 0 {
				s.asked(t, at, e)
			}
		}
		see(walks, len(s.log), maps)
		for _, i := range s.all() {
			s.done(t, i)
		}
		for _, w := range walks {
			w.told(t)
		}
		for m := range maps {
			if !slices.Equal(maps[m].Walk(), s.end.pairs[m]) {
				t.Fatalf("P5: at the end map %d is %v, not %v", m, s.end.pairs[m], maps[m].Walk())
			}
		}
	}
}

// owner is the task of the owner of a key's shard.
func (s tale) owner(key uint64) int {
	return len(s.scripts) + s.config.Workers + place.Of(key, s.config.Shards)
}

// asked is that what was done for a worker stands between its asking and its answer.
func (s tale) asked(t *testing.T, at int, e api.Entry) {
	t.Helper()
	ask := -1
	for k, o := range s.log[:at] {
		if o.Task == e.From {
			ask = k
		}
	}
	back := s.find(at, func(o api.Entry) bool { return o.Task == e.From })
	twice := slices.ContainsFunc(s.log[max(ask, 0):at], func(o api.Entry) bool { return o.What == api.MarkApply && o.From == e.From })
	if ask < 0 || back == len(s.log) || twice || e.Cmd != 0 || e.Tag != 0 {
		t.Fatalf("P5: %+v was asked by nobody", e)
	}
	if a, b := s.log[ask], s.log[back]; a.What != api.MarkAsk || a.Event != e.Event || a.Item != e.Item || b.What != api.MarkBack || b.Event != e.Event || b.Res != e.Res || b.Pc != a.Pc {
		t.Fatalf("P5: %+v was asked by %+v and told by %+v", e, a, b)
	}
}

// done is that of a command's items each was done once, between its call and its return, and told; of another command none.
func (s tale) done(t *testing.T, i issued) {
	t.Helper()
	items := i.Items
	if i.Kind == api.CmdItem {
		items = []api.Item{i.Item}
	}
	if i.with.E != api.OK || i.Kind > api.CmdBatch {
		items = nil
	}
	n := 0
	for at, e := range s.log {
		if e.What != api.MarkApply || e.Event != 0 || e.From != i.client || e.Cmd != i.cmd {
			continue
		}
		n++
		if at < i.called || at > i.back || e.Tag >= len(items) || e.Item != items[e.Tag] || e.Res != i.with.Res[e.Tag] {
			t.Fatalf("P5: %+v isn't of %+v", e, i)
		}
	}
	if n != len(items) || len(i.with.Res) != n {
		t.Fatalf("P5: %+v: %d operations were done", i, n)
	}
}

// walked is a walk, and which shards' parts of its answer were what the shard held at some moment between its call and its return.
type walked struct {
	issued
	shards int
	parts  map[int][][]api.Pair
}

// walks are those of a tale.
func (s tale) walks() []walked {
	var out []walked
	for _, i := range s.all() {
		if i.Kind == api.CmdWalk && i.with.E == api.OK {
			out = append(out, walked{issued: i, shards: s.config.Shards, parts: map[int][][]api.Pair{}})
		}
	}
	return out
}

// see writes down what the shards hold ahead of an entry.
func see(walks []walked, at int, maps []*cmap.Map) {
	for _, w := range walks {
		if at <= w.called || at > w.back {
			continue
		}
		for shard := range w.shards {
			part, _ := maps[w.Map].Part(shard)
			w.parts[shard] = append(w.parts[shard], part)
		}
	}
}

// told is that a walk's answer is one part of each shard that was seen, shard by shard.
func (w walked) told(t *testing.T) {
	t.Helper()
	rest := w.with.Pairs
	for shard := range w.shards {
		n := 0
		for n < len(rest) && place.Of(rest[n].Key, w.shards) == shard {
			n++
		}
		if !slices.ContainsFunc(w.parts[shard], func(p []api.Pair) bool { return slices.Equal(p, rest[:n]) }) {
			t.Fatalf("P5: a walk tells %v of shard %d, which held %v", rest[:n], shard, w.parts[shard])
		}
		rest = rest[n:]
	}
	if len(rest) > 0 {
		t.Fatalf("P5: a walk tells %v", w.with.Pairs)
	}
}

// TestBoundedMaps: P6; a shard evicts only where an absent key is put into it while it holds as many as it may, and then the one touched longest ago; a plain one refuses just there.
func TestBoundedMaps(t *testing.T) {
	evicted, full := 0, 0
	for _, s := range tales(t, 6, 250) {
		type part struct{ m, shard int }
		order := map[part][]uint64{}
		for _, e := range s.log {
			if e.What != api.MarkApply {
				continue
			}
			d, at := s.config.Maps[e.Item.Map], part{e.Item.Map, e.Task}
			keys, key := order[at], e.Item.Key
			there := slices.Contains(keys, key)
			puts := e.Item.Op == api.MapPut || e.Item.Op == api.MapAdd
			tight := puts && !there && len(keys) == d.Cap
			if e.Res.Found != there || e.Res.Out != (tight && d.Kind == api.Bounded) || (e.Res.E == api.ErrFull) != (tight && d.Kind == api.Plain) {
				t.Fatalf("P6: %+v, the shard holds %v of %d", e, keys, d.Cap)
			}
			if e.Res.Out {
				evicted++
				if e.Res.OutKey != keys[0] {
					t.Fatalf("P6: %+v, the keys by age are %v", e, keys)
				}
				keys = keys[1:]
			}
			if e.Res.E == api.ErrFull {
				full++
				continue
			}
			if puts || there && e.Item.Op != api.MapHas {
				keys = slices.DeleteFunc(slices.Clone(keys), func(k uint64) bool { return k == key })
			}
			if puts || there && e.Item.Op == api.MapGet {
				keys = append(keys, key)
			}
			order[at] = keys
		}
	}
	if evicted < 40 || full < 40 {
		t.Errorf("too little was met: %d, %d", evicted, full)
	}
}

// TestVersions: P7; each attach and swap that succeeds publishes the next version, within it and by no other.
func TestVersions(t *testing.T) {
	for _, s := range tales(t, 7, 250) {
		last, versions := 0, map[int]int{}
		for at, e := range s.log {
			if e.What == api.MarkPublish && e.Version != 0 {
				if e.Version != last+1 || e.Prog == 0 {
					t.Fatalf("P7: %+v behind version %d", e, last)
				}
				last, versions[e.Version] = e.Version, at
			}
		}
		for _, i := range s.all() {
			if (i.Kind != api.CmdAttach && i.Kind != api.CmdSwap) || i.with.E != api.OK {
				continue
			}
			at, ok := versions[i.with.N]
			if !ok || at < i.called || at > i.back || s.log[at].Hook != i.Hook || s.log[at].Prog != i.Prog {
				t.Fatalf("P7: %+v published %+v", i, s.log[at])
			}
			delete(versions, i.with.N)
		}
		if len(versions) > 0 {
			t.Fatalf("P7: %v were published by nobody", versions)
		}
	}
}

// TestOneVersion: P8; each event is run wholly by one version, which was current at its hook between its acceptance and its end; and none that is accepted behind a swap's return runs an older one.
func TestOneVersion(t *testing.T) {
	ran := 0
	for _, s := range tales(t, 8, 250) {
		for _, e := range s.events() {
			if e.ent == len(s.log) {
				continue
			}
			ran++
			of := s.log[e.ent]
			for _, o := range s.log[e.ent : e.done+1] {
				if o.Event == e.number && o.What != api.MarkApply && (o.Prog != of.Prog || o.Version != of.Version || o.Task != of.Task) {
					t.Fatalf("P8: %+v in the run of %+v", o, of)
				}
			}
			if e.ent < e.accepted || e.ent > e.done || of.Hook != e.hook || s.current(e.hook, e.ent) != of.Version {
				t.Fatalf("P8: %+v, current is %d", of, s.current(e.hook, e.ent))
			}
			for _, i := range s.all() {
				if i.Kind == api.CmdSwap && i.with.E == api.OK && i.Hook == e.hook && i.back < e.accepted && of.Version < i.with.N {
					t.Fatalf("P8: %+v ran version %d, which is older than %+v", e, of.Version, i)
				}
			}
		}
	}
	if ran < 200 {
		t.Errorf("only %d events were run", ran)
	}
}

// current is the version at a hook at a place of the log.
func (s tale) current(hook, at int) int {
	version := 0
	for _, e := range s.log[:at] {
		if e.What == api.MarkPublish && e.Hook == hook {
			version = e.Version
		}
	}
	return version
}

// mapsOf are the maps that the program of that number names: a load that succeeded tells its number.
func (s tale) mapsOf(prog int) []int {
	for _, i := range s.all() {
		if i.Kind == api.CmdLoad && i.with.E == api.OK && i.with.N == prog {
			m, _, _ := wire.Decode(i.Module)
			return m.Maps
		}
	}
	return nil
}

// TestRetired: P9; behind a retire's return with success nothing of that program is done any more, nor is it in between the program's end and that return; and it holds its maps from its load to its end, at every step.
func TestRetired(t *testing.T) {
	retired := 0
	for _, s := range tales(t, 9, 250) {
		gone := map[int]int{}
		for at, e := range s.log {
			if where, ok := gone[e.Prog]; e.Prog > 0 && ok {
				t.Fatalf("P9: entry %d is %+v, the program was retired by entry %d", at, e, where)
			}
			if e.What == api.MarkRetired {
				gone[e.Prog] = at
				retired++
			}
		}
		for _, i := range s.all() {
			if where, ok := gone[i.Prog]; i.Kind == api.CmdRetire && i.with.E == api.OK && (!ok || where > i.back || where < i.called) {
				t.Fatalf("P9: %+v, retired by entry %d, %v", i, where, ok)
			}
		}
		s.held(t)
	}
	if retired < 30 {
		t.Errorf("only %d programs were retired", retired)
	}
}

// held is that the maps' counts are at every step those of the programs that are there.
func (s tale) held(t *testing.T) {
	t.Helper()
	want, at := make([]int, len(s.config.Maps)), 0
	for n, v := range s.views {
		for ; at < s.lens[n]; at++ {
			e, by := s.log[at], 0
			switch e.What {
			case api.MarkLoaded:
				by = 1
			case api.MarkRetired:
				by = -1
			default:
				continue
			}
			for _, m := range s.mapsOf(e.Prog) {
				want[m] += by
			}
		}
		if !slices.Equal(v.refs, want) {
			t.Fatalf("P9: behind %d steps the maps are held by %v, want %v", n, v.refs, want)
		}
	}
}

// TestCounted: P10; at all times a ring's accepted events are those taken, dropped and queued, and all of them are those of the log; where no client waits and no worker is at an event those taken are those done; an event is refused with ErrFull just where the ring is full; events are taken and dropped in the order in which they came.
func TestCounted(t *testing.T) {
	full := 0
	for _, s := range tales(t, 10, 250) {
		counts, waits := make([]api.RingCounts, s.config.Hooks), make([][]int, s.config.Hooks)
		at, done, numbers := 0, 0, 0
		for n, v := range s.views {
			for ; at < s.lens[n]; at++ {
				e := s.log[at]
				c := &counts[min(max(e.Hook, 0), s.config.Hooks-1)]
				switch e.What {
				case api.MarkCall:
					full += s.fires(t, at, counts)
				case api.MarkAccept:
					numbers++
					c.Accepted++
					waits[e.Hook] = append(waits[e.Hook], e.Event)
					if e.Event != numbers {
						t.Fatalf("P10: %+v, want event %d", e, numbers)
					}
				case api.MarkTake, api.MarkDrop:
					if e.What == api.MarkTake {
						c.Taken++
					} else {
						c.Dropped++
					}
					if len(waits[e.Hook]) == 0 || waits[e.Hook][0] != e.Event {
						t.Fatalf("P10: %+v, waiting are %v", e, waits[e.Hook])
					}
					waits[e.Hook] = waits[e.Hook][1:]
				case api.MarkDone:
					done++
				}
				c.Queued = c.Accepted - c.Taken - c.Dropped
			}
			s.counts(t, v, counts, done)
		}
	}
	if full < 20 {
		t.Errorf("ErrFull was met %d times", full)
	}
}

// counts is that the rings' counts are these, and that where it is quiet all that were taken are done.
func (s tale) counts(t *testing.T, v view, want []api.RingCounts, done int) {
	t.Helper()
	taken := 0
	for _, c := range v.rings {
		taken += c.Taken
		if c.Accepted != c.Taken+c.Dropped+c.Queued || c.Queued > s.config.Ring {
			t.Fatalf("P10: %+v", c)
		}
	}
	if !slices.Equal(v.rings, want) || v.quiet && taken != done {
		t.Fatalf("P10: the rings' counts are %+v, of the log %+v; %d are done", v.rings, want, done)
	}
}

// fires is that where a call is a fire it is refused just where the ring is full: 1 then, and that is counted.
func (s tale) fires(t *testing.T, at int, counts []api.RingCounts) int {
	t.Helper()
	e := s.log[at]
	cmd := s.scripts[e.Task][e.Cmd]
	if cmd.Kind != api.CmdFire || cmd.Hook < 0 || cmd.Hook >= s.config.Hooks || s.find(0, func(e api.Entry) bool { return e.What == api.MarkClosed }) < at {
		return 0
	}
	full := counts[cmd.Hook].Queued == s.config.Ring
	if got := s.end.answers[e.Task][e.Cmd]; (got.E == api.ErrFull) != full || (got.E == api.OK) == full {
		t.Fatalf("P10: %+v was answered %+v, the ring: %+v", e, got, counts[cmd.Hook])
	}
	if full {
		counts[cmd.Hook].Refused++
		return 1
	}
	return 0
}

// TestMeaning: P11; what each run does, instruction by instruction, is what the machine of its program's module does on its event, given what its calls were answered.
func TestMeaning(t *testing.T) {
	ran := 0
	for _, s := range tales(t, 11, 250) {
		modules := map[int]api.Module{}
		for _, i := range s.all() {
			if i.Kind == api.CmdLoad && i.with.E == api.OK {
				modules[i.with.N], _, _ = wire.Decode(i.Module)
			}
		}
		events, scratches := s.events(), map[int]*scratch.Scratch{}
		machines := map[int]*engine.Machine{}
		for _, e := range s.log {
			switch e.What {
			case api.MarkEnter:
				if scratches[e.Task] == nil {
					scratches[e.Task] = scratch.New()
				}
				machines[e.Task], _ = engine.New(modules[e.Prog], events[e.Event-1].Event, scratches[e.Task])
			case api.MarkBack:
				machines[e.Task].Answer(e.Res)
			case api.MarkRan, api.MarkAsk, api.MarkNote, api.MarkDone:
				if e.Version == 0 {
					continue
				}
				kind := map[api.Mark]api.ActKind{api.MarkRan: api.ActRan, api.MarkAsk: api.ActCall, api.MarkNote: api.ActNote, api.MarkDone: api.ActEnd}[e.What]
				if act := machines[e.Task].Step(); act != (api.Act{Kind: kind, Pc: e.Pc, Item: e.Item, Val: e.Val}) {
					t.Fatalf("P11: %+v, want %+v", e, act)
				}
				ran++
			}
		}
	}
	if ran < 2000 {
		t.Errorf("only %d instructions were run", ran)
	}
}

// TestAtRest: P12; within a drain that succeeds there is a moment at which no event waits and no worker is at one.
func TestAtRest(t *testing.T) {
	drains := 0
	for _, s := range tales(t, 12, 250) {
		for _, i := range s.all() {
			if i.Kind != api.CmdDrain || i.with.E != api.OK {
				continue
			}
			drains++
			at, under := -1, 0
			for k, e := range s.log[:i.back] {
				switch e.What {
				case api.MarkAccept:
					under++
				case api.MarkDone, api.MarkDrop:
					under--
				}
				if k >= i.called && under == 0 {
					at = k
				}
			}
			if at < 0 {
				t.Fatalf("P12: %+v, and events were under way all the time", i)
			}
		}
	}
	if drains < 50 {
		t.Errorf("only %d drains succeeded", drains)
	}
}

// TestTallied: P12; at every step the tallies are those of the log.
func TestTallied(t *testing.T) {
	for _, s := range tales(t, 13, 250) {
		want, now, at := make([]api.Tally, s.config.Hooks), map[int]api.Tally{}, 0
		for n, v := range s.views {
			for ; at < s.lens[n]; at++ {
				e := s.log[at]
				run := now[e.Task]
				switch e.What {
				case api.MarkEnter:
					run = api.Tally{Runs: 1}
				case api.MarkRan, api.MarkNote:
					run.Steps++
				case api.MarkAsk:
					run.Steps++
					run.Calls++
				case api.MarkDone:
					if e.Version == 0 {
						want[e.Hook].Missed++
						continue
					}
					w := &want[e.Hook]
					w.Runs, w.Steps, w.Calls, w.Sum = w.Runs+1, w.Steps+run.Steps+1, w.Calls+run.Calls, w.Sum+e.Val
				}
				now[e.Task] = run
			}
			if !slices.Equal(v.tallies, want) {
				t.Fatalf("P12: behind %d steps the tallies are %+v, of the log %+v", n, v.tallies, want)
			}
		}
	}
}

// TestClosedForAll: P12; behind a close everything is refused: what is issued then at once, and what waits in the registry's line; nothing is accepted, taken, loaded or published any more. Ahead of it nobody is refused so.
func TestClosedForAll(t *testing.T) {
	closed := 0
	for _, s := range tales(t, 14, 250) {
		at := s.find(0, func(e api.Entry) bool { return e.What == api.MarkClosed })
		for _, i := range s.all() {
			if i.called > at {
				closed++
				if i.with.E != api.ErrClosed || i.back != i.called+1 {
					t.Fatalf("P12: %+v behind the close", i)
				}
			}
			if i.back < at && i.with.E == api.ErrClosed {
				t.Fatalf("P12: %+v ahead of the close", i)
			}
		}
		for _, e := range s.log[min(at, len(s.log)):] {
			switch e.What {
			case api.MarkAccept, api.MarkTake, api.MarkLoaded, api.MarkPublish, api.MarkDrop:
				t.Fatalf("P12: %+v behind the close", e)
			}
		}
	}
	if closed < 100 {
		t.Errorf("only %d commands came behind a close", closed)
	}
}
