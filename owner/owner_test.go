package owner_test

import (
	"math"
	"slices"
	"testing"

	"tappet/api"
	"tappet/owner"
	"tappet/place"
)

// lawful are the operations, each once.
func lawful() []api.MapOp {
	return []api.MapOp{api.MapGet, api.MapHas, api.MapPut, api.MapDel, api.MapAdd}
}

// otherOps are numbers of no operation: just beside the ends, far off, and such that are operations modulo 5, 2^3, 2^8, 2^16 or 2^32.
func otherOps() []api.MapOp {
	return []api.MapOp{-1, -2, -3, -4, -5, -8, -256, -65536, math.MinInt32, -1 << 32, math.MinInt, math.MinInt + 2,
		5, 6, 7, 8, 10, 12, 255, 256, 258, 65538, math.MaxInt32, 1 << 32, 1<<32 + 2, math.MaxInt - 1, math.MaxInt}
}

// edges are keys and values at which something could go wrong.
func edges() []uint64 {
	return []uint64{0, 1, 2, 255, 256, 1<<31 - 1, 1 << 31, 1<<32 - 1, 1 << 32, 1<<32 + 1, 1<<63 - 1, 1 << 63, 1<<63 + 1, most - 1, most}
}

// numbers are shards, numbers of shards and of maps: those that there may be, those beside them, far ones, and such that are lawful modulo 2^8, 2^16 or 2^32.
func numbers() []int {
	ns := []int{math.MinInt, math.MinInt + 1, -1 << 32, -1<<32 + 1, math.MinInt32, -65535, -256, -255,
		255, 256, 257, 260, 65536, 65537, math.MaxInt32, 1 << 32, 1<<32 + 1, 1<<32 + 4, math.MaxInt - 1, math.MaxInt}
	for n := -6; n <= 8; n++ {
		ns = append(ns, n)
	}
	return ns
}

func plain(room int) api.MapDef {
	return api.MapDef{Kind: api.Plain, Cap: room}
}

func bounded(room int) api.MapDef {
	return api.MapDef{Kind: api.Bounded, Cap: room}
}

// both are the kinds, with one cap.
func both(room int) []api.MapDef {
	return []api.MapDef{plain(room), bounded(room)}
}

// defs are all maps that Make takes.
func defs() []api.MapDef {
	var ds []api.MapDef
	for room := 1; room <= 16; room++ {
		ds = append(ds, both(room)...)
	}
	return ds
}

// wrongDefs are maps that Make refuses, by their kind, their cap or both.
func wrongDefs() []api.MapDef {
	return []api.MapDef{{}, bounded(0), plain(17), bounded(17), plain(-1), plain(math.MaxInt), bounded(math.MinInt),
		{Kind: 2, Cap: 1}, {Kind: -1, Cap: 1}, {Kind: math.MaxInt, Cap: 16}, {Kind: math.MinInt, Cap: 16}, {Kind: 2}, {Kind: -1, Cap: 17}}
}

// right tells whether New takes a shape.
func right(s shape) bool {
	return s.shards >= 1 && s.shards <= 4 && s.shard >= 0 && s.shard < s.shards && len(s.ds) <= 4 && !slices.ContainsFunc(s.ds, func(d api.MapDef) bool {
		return d.Kind != 0 && d.Kind != 1 || d.Cap < 1 || d.Cap > 16
	})
}

// ask is a request for an operation.
func ask(m int, op api.MapOp, key, val uint64) api.Request {
	return api.Request{Item: api.Item{Map: m, Op: op, Key: key, Val: val}}
}

// walk is a request for all pairs of a map.
func walk(m int) api.Request {
	return api.Request{Walk: true, Item: api.Item{Map: m}}
}

// by is a request from somebody, with a tag.
func by(from, tag int, q api.Request) api.Request {
	q.From, q.Tag = from, tag
	return q
}

// badRequest is what no owner takes.
func badRequest() api.Request {
	return api.Request{From: -666, Tag: 666, Item: api.Item{Map: -666, Op: -666, Key: 666, Val: 666}}
}

// pair is one, in few letters.
func pair(key, val uint64) api.Pair {
	return api.Pair{Key: key, Val: val}
}

// keysIn are the least keys of a shard, rising.
func keysIn(shard, shards, many int) []uint64 {
	var keys []uint64
	for k := uint64(0); len(keys) < many; k++ {
		if place.Of(k, shards) == shard {
			keys = append(keys, k)
		}
	}
	return keys
}

// made is a new owner.
func made(t *testing.T, shard, shards int, ds ...api.MapDef) *owner.Owner {
	t.Helper()
	o, e := owner.New(shard, shards, ds...)
	if o == nil || e != api.OK {
		t.Fatalf("New(%d, %d, %v): %v, %v", shard, shards, ds, o, e)
	}
	return o
}

// holding is a new owner of one map of a single shard, into which these pairs were put, one behind the other.
func holding(t *testing.T, d api.MapDef, ps ...api.Pair) *owner.Owner {
	t.Helper()
	o := made(t, 0, 1, d)
	for _, p := range ps {
		does(t, o, ask(0, api.MapPut, p.Key, p.Val), api.Res{})
	}
	return o
}

// refuses fails if New takes these.
func refuses(t *testing.T, shard, shards int, ds ...api.MapDef) {
	t.Helper()
	if o, e := owner.New(shard, shards, ds...); o != nil || e != api.ErrArg {
		t.Errorf("New(%d, %d, %v): %v, %v", shard, shards, ds, o, e)
	}
}

// sends fails if Send isn't answered so.
func sends(t *testing.T, o *owner.Owner, w api.Errno, qs ...api.Request) {
	t.Helper()
	if e := o.Send(qs...); e != w {
		t.Errorf("Send(%v): %v, want %v", qs, e, w)
	}
}

// steps fails if Step doesn't answer this.
func steps(t *testing.T, o *owner.Owner, w api.Reply) {
	t.Helper()
	if got, ok := o.Step(); !ok || !sameReply(got, w) {
		t.Errorf("Step: %+v, %t, want %+v", got, ok, w)
	}
}

// stepsNone fails if Step answers a reply.
func stepsNone(t *testing.T, o *owner.Owner) {
	t.Helper()
	if got, ok := o.Step(); ok || !sameReply(got, api.Reply{}) {
		t.Errorf("Step: %+v, %t, want none", got, ok)
	}
}

// does fails if an operation, sent into an empty line and done, isn't answered so.
func does(t *testing.T, o *owner.Owner, q api.Request, w api.Res) {
	t.Helper()
	sends(t, o, api.OK, q)
	steps(t, o, api.Reply{To: q.From, Tag: q.Tag, Item: q.Item, Res: w})
}

// walks fails if a walk, sent into an empty line and done, isn't answered by these pairs.
func walks(t *testing.T, o *owner.Owner, m int, ps ...api.Pair) {
	t.Helper()
	sends(t, o, api.OK, walk(m))
	steps(t, o, api.Reply{Walk: true, Item: api.Item{Map: m}, Pairs: ps})
}

// waits fails if the line isn't this.
func waits(t *testing.T, when string, o *owner.Owner, qs ...api.Request) {
	t.Helper()
	if got := o.Waiting(); !slices.Equal(got, qs) {
		t.Errorf("%s: Waiting %v, want %v", when, got, qs)
	}
}

// holds fails if the maps' shards don't hold these, or there is one more map.
func holds(t *testing.T, when string, o *owner.Owner, pairs ...[]api.Pair) {
	t.Helper()
	for m, ps := range pairs {
		if got, e := o.Pairs(m); e != api.OK || !slices.Equal(got, ps) {
			t.Errorf("%s: Pairs(%d) %v, %v, want %v", when, m, got, e, ps)
		}
	}
	for _, m := range []int{math.MinInt, -1, len(pairs), math.MaxInt} {
		if got, e := o.Pairs(m); e != api.ErrArg || len(got) != 0 {
			t.Errorf("%s: Pairs(%d) %v, %v", when, m, got, e)
		}
	}
}

// ends fails if End isn't answered so, or Ended isn't what it says then.
func ends(t *testing.T, o *owner.Owner, w api.Errno, over bool) {
	t.Helper()
	if e := o.End(); e != w || o.Ended() != over {
		t.Errorf("End: %v, Ended %t, want %v, %t", e, o.Ended(), w, over)
	}
}

// open fails if an owner has ended.
func open(t *testing.T, when string, o *owner.Owner) {
	t.Helper()
	if o.Ended() {
		t.Errorf("%s: it has ended", when)
	}
}

// TestExamples: the chapter's table.
func TestExamples(t *testing.T) {
	o := made(t, 0, 2, plain(1))
	put := api.Item{Op: api.MapPut, Key: 0, Val: 7}
	sends(t, o, api.OK, api.Request{From: 5, Tag: 9, Item: put}, api.Request{From: 6, Walk: true})
	steps(t, o, api.Reply{To: 5, Tag: 9, Item: put})
	steps(t, o, api.Reply{To: 6, Walk: true, Pairs: []api.Pair{pair(0, 7)}})
	stepsNone(t, o)
	sends(t, o, api.ErrArg, api.Request{Item: api.Item{Key: 1}})
	sends(t, o, api.ErrArg, api.Request{Item: api.Item{Map: 1}})
	sends(t, o, api.ErrArg, api.Request{Item: api.Item{Op: 5}})
	sends(t, o, api.OK, api.Request{Walk: true, Item: api.Item{Op: 5, Key: 1}})
	ends(t, o, api.ErrBusy, false)
	steps(t, o, api.Reply{Walk: true, Item: api.Item{Op: 5, Key: 1}, Pairs: []api.Pair{pair(0, 7)}})
	ends(t, o, api.OK, true)
	sends(t, o, api.ErrClosed, api.Request{Walk: true})
}

// TestNew: P22.1; any shard of any number of shards, with lists of maps that are right and that are not, so that one fault and several come.
func TestNew(t *testing.T) {
	five := []api.MapDef{plain(1), bounded(2), plain(3), bounded(4), plain(5)}
	lists := [][]api.MapDef{nil, {}, five[:1], five[1:2], five[:2], five[:3], five[:4], five, {plain(16), bounded(16), plain(16), bounded(16)},
		{plain(0)}, {plain(1), bounded(17)}, append(slices.Clone(five), plain(0))}
	for _, shards := range numbers() {
		for _, shard := range numbers() {
			for _, ds := range lists {
				if right(shape{shard, shards, ds}) {
					fresh(t, shard, shards, ds...)
				} else {
					refuses(t, shard, shards, ds...)
				}
			}
		}
	}
}

// fresh fails if a new owner isn't empty and open.
func fresh(t *testing.T, shard, shards int, ds ...api.MapDef) {
	t.Helper()
	o := made(t, shard, shards, ds...)
	open(t, "a new one", o)
	waits(t, "a new one", o)
	stepsNone(t, o)
	holds(t, "a new one", o, make([][]api.Pair, len(ds))...)
	if other := made(t, shard, shards, ds...); other == o {
		t.Error("New answers one owner twice")
	}
}

// TestNewEdges: P22.1; shards and numbers of shards at the edges, written out.
func TestNewEdges(t *testing.T) {
	for _, shards := range []int{math.MinInt, -1, 0, 5, math.MaxInt} {
		for _, shard := range []int{math.MinInt, -1, 0, 1, 4, math.MaxInt} {
			refuses(t, shard, shards)
			refuses(t, shard, shards, plain(1))
		}
	}
	for shards := 1; shards <= 4; shards++ {
		for _, shard := range []int{math.MinInt, -1, shards, shards + 1, math.MaxInt} {
			refuses(t, shard, shards)
			refuses(t, shard, shards, plain(1))
		}
		fresh(t, 0, shards)
		fresh(t, shards-1, shards, plain(1))
	}
}

// TestNewWrongMap: P22.1; a map that Make refuses, standing first, in the middle and last, alone and among right ones.
func TestNewWrongMap(t *testing.T) {
	for _, d := range wrongDefs() {
		for many := 1; many <= 5; many++ {
			for at := range many {
				ds := slices.Repeat([]api.MapDef{bounded(3)}, many)
				ds[at] = d
				refuses(t, 0, 1, ds...)
				refuses(t, 1, 2, ds...)
			}
		}
		refuses(t, 0, 1, d, d, d, d)
	}
	for _, d := range defs() {
		for many := range 5 {
			fresh(t, 0, 1, slices.Repeat([]api.MapDef{d}, many)...)
		}
		refuses(t, 0, 1, d, d, d, d, d)
	}
	refuses(t, 0, 1, slices.Repeat([]api.MapDef{plain(1)}, 100000)...)
}

// TestNewMaps: P22.1; each map is of its own kind and cap, whatever stands beside it.
func TestNewMaps(t *testing.T) {
	for _, ds := range [][]api.MapDef{{plain(2), bounded(1), plain(1), bounded(3)}, {bounded(16), plain(16)}, {bounded(2), bounded(1), plain(3)}} {
		o := made(t, 0, 1, ds...)
		for m, d := range ds {
			for k := range uint64(d.Cap) {
				does(t, o, ask(m, api.MapPut, k, 100+k), api.Res{})
			}
		}
		for m, d := range ds {
			w := api.Res{E: api.ErrFull}
			if d.Kind == api.Bounded {
				w = api.Res{Out: true, OutKey: 0, OutVal: 100}
			}
			does(t, o, ask(m, api.MapPut, 50, 1), w)
		}
	}
}

// TestNewKeepsNothing: P22.5, rule 5; what is handed to New stays as it was, its spare room included, and may be written over.
func TestNewKeepsNothing(t *testing.T) {
	whole := []api.MapDef{plain(9), plain(1), bounded(1), plain(8), plain(7)}
	kept := slices.Clone(whole)
	o := made(t, 0, 1, whole[1:3]...)
	refuses(t, 0, 1, whole...)
	refuses(t, 0, 0, whole[1:3]...)
	if !slices.Equal(whole, kept) {
		t.Fatalf("New changed what it was handed: %v", whole)
	}
	spoil(whole, api.MapDef{Kind: 7, Cap: 16})
	does(t, o, ask(0, api.MapPut, 1, 1), api.Res{})
	does(t, o, ask(0, api.MapPut, 2, 2), api.Res{E: api.ErrFull})
	does(t, o, ask(1, api.MapPut, 1, 1), api.Res{})
	does(t, o, ask(1, api.MapPut, 2, 2), api.Res{Out: true, OutKey: 1, OutVal: 1})
	holds(t, "behind writing to the list", o, []api.Pair{pair(1, 1)}, []api.Pair{pair(2, 2)})
}

// TestSendMap: P22.2; just the numbers of maps that there are, for an operation and for a walk, with none to four maps.
func TestSendMap(t *testing.T) {
	for maps := range 5 {
		for _, m := range numbers() {
			for _, q := range []api.Request{ask(m, api.MapPut, 0, 1), walk(m), {Walk: true, Item: api.Item{Map: m, Op: 9, Key: 1}}} {
				o := made(t, 0, 2, slices.Repeat([]api.MapDef{bounded(2)}, maps)...)
				if m >= 0 && m < maps {
					sends(t, o, api.OK, q)
					waits(t, "taken", o, q)
				} else {
					sends(t, o, api.ErrArg, q)
					waits(t, "refused", o)
				}
			}
		}
	}
}

// TestSendOp: P22.2; just the five operations, but any number with a walk.
func TestSendOp(t *testing.T) {
	for _, op := range lawful() {
		o := made(t, 0, 2, plain(1))
		sends(t, o, api.OK, ask(0, op, 2, 3))
		waits(t, "an operation", o, ask(0, op, 2, 3))
	}
	for _, op := range otherOps() {
		o, q := made(t, 0, 2, plain(1)), ask(0, op, 2, 3)
		sends(t, o, api.ErrArg, q)
		waits(t, "no operation", o)
		q.Walk = true
		sends(t, o, api.OK, q)
		waits(t, "a walk", o, q)
	}
}

// TestSendKey: P22.2; just the keys of this shard, but any with a walk: those of the chapters written out, and the least and the greatest.
func TestSendKey(t *testing.T) {
	for _, c := range [][][]uint64{
		{{0, 1, 2, 3, 4, 5, 6, 7, 8, 9, 10}},
		{{0, 2, 3, 6, 7, 10}, {1, 4, 5, 8, 9}},
		{{0, 1, 3}, {10}, {2, 4, 5, 6, 7, 8, 9}},
		{{0, 3, 6}, {1, 4, 9}, {2, 7, 10}, {5, 8}},
	} {
		for shard := range c {
			for home, keys := range c {
				for _, k := range keys {
					takesKey(t, shard, len(c), k, home == shard)
				}
			}
			for _, k := range edges() {
				takesKey(t, shard, len(c), k, place.Of(k, len(c)) == shard)
			}
		}
	}
}

// takesKey fails if an owner takes a key of another shard, or refuses one of its own, whatever the operation; a walk it must take.
func takesKey(t *testing.T, shard, shards int, key uint64, mine bool) {
	t.Helper()
	for _, op := range lawful() {
		o, q := made(t, shard, shards, bounded(1)), ask(0, op, key, 1)
		if mine {
			sends(t, o, api.OK, q)
			waits(t, "its own", o, q)
			continue
		}
		sends(t, o, api.ErrArg, q)
		waits(t, "another's", o)
		q.Walk = true
		sends(t, o, api.OK, q)
		waits(t, "a walk", o, q)
	}
}

// wrongs are requests that an owner of shard 0 of 2 with two maps refuses.
func wrongs() []api.Request {
	return []api.Request{ask(-1, api.MapPut, 0, 1), ask(2, api.MapPut, 0, 1), ask(math.MaxInt, api.MapGet, 0, 1), ask(math.MinInt, api.MapGet, 0, 1),
		ask(0, -1, 0, 1), ask(0, 5, 0, 1), ask(1, math.MaxInt, 0, 1), ask(1, math.MinInt, 0, 1), ask(0, api.MapPut, 1, 1), ask(1, api.MapHas, 9, 1),
		walk(-1), walk(2), walk(math.MaxInt), walk(math.MinInt), ask(2, 5, 1, 1), badRequest()}
}

// TestSendOneWrong: P22.2; one that is refused, standing first, in the middle and last: none goes in, and nothing changes.
func TestSendOneWrong(t *testing.T) {
	good := []api.Request{by(1, 2, ask(0, api.MapPut, 2, 4)), walk(1), ask(1, api.MapAdd, 3, 1), by(-1, -1, walk(0)), ask(0, api.MapDel, 0, 0)}
	for _, wrong := range wrongs() {
		for many := range len(good) + 1 {
			for at := range many + 1 {
				o := made(t, 0, 2, plain(2), bounded(1))
				does(t, o, ask(0, api.MapPut, 0, 7), api.Res{})
				sends(t, o, api.OK, walk(0), ask(1, api.MapPut, 6, 1))
				sends(t, o, api.ErrArg, slices.Insert(slices.Clone(good[:many]), at, wrong)...)
				open(t, "refused", o)
				waits(t, "refused", o, walk(0), ask(1, api.MapPut, 6, 1))
				holds(t, "refused", o, []api.Pair{pair(0, 7)}, nil)
				steps(t, o, api.Reply{Walk: true, Pairs: []api.Pair{pair(0, 7)}})
				steps(t, o, api.Reply{Item: ask(1, api.MapPut, 6, 1).Item})
				stepsNone(t, o)
				sends(t, o, api.OK, good[:many]...)
				waits(t, "without the wrong one", o, good[:many]...)
			}
		}
	}
	o := made(t, 0, 2, plain(2), bounded(1))
	sends(t, o, api.ErrArg, wrongs()...)
	waits(t, "all wrong", o)
	ends(t, o, api.OK, true)
}

// TestSendOrder: P22.2; what is sent stands in order behind all others, also equal ones, each as often as it was sent.
func TestSendOrder(t *testing.T) {
	o := made(t, 0, 2, plain(2), bounded(1))
	qs := []api.Request{by(3, 1, ask(0, api.MapPut, 2, 4)), by(1, 3, walk(1)), by(3, 1, ask(0, api.MapPut, 2, 4)), by(2, 2, ask(1, api.MapGet, 0, 0)),
		{}, {}, by(1, 3, walk(1)), ask(0, api.MapHas, 10, 0), by(-5, 0, walk(0))}
	sends(t, o, api.OK, qs[0])
	waits(t, "one", o, qs[0])
	sends(t, o, api.OK, qs[1:4]...)
	waits(t, "three more", o, qs[:4]...)
	sends(t, o, api.OK)
	sends(t, o, api.OK, qs[4], qs[5])
	waits(t, "two more", o, qs[:6]...)
	for i, q := range qs[:5] {
		if got, ok := o.Step(); !ok || got.To != q.From || got.Tag != q.Tag || got.Item != q.Item {
			t.Errorf("step %d: %v, %t, want %v", i, got, ok, q)
		}
	}
	sends(t, o, api.OK, qs[6:]...)
	waits(t, "behind Steps", o, qs[5:]...)
}

// TestSendNone: P22.2, rule 9; OK and no change, with no argument, nil and an empty list, but ErrClosed to one that has ended.
func TestSendNone(t *testing.T) {
	o := made(t, 0, 1, plain(2))
	none := func(w api.Errno) {
		t.Helper()
		if e := o.Send(); e != w {
			t.Errorf("Send(): %v, want %v", e, w)
		}
		sends(t, o, w, nil...)
		sends(t, o, w, []api.Request{}...)
	}
	none(api.OK)
	open(t, "empty", o)
	waits(t, "empty", o)
	stepsNone(t, o)
	does(t, o, ask(0, api.MapPut, 1, 2), api.Res{})
	sends(t, o, api.OK, walk(0), ask(0, api.MapPut, 3, 4))
	none(api.OK)
	open(t, "some", o)
	waits(t, "some", o, walk(0), ask(0, api.MapPut, 3, 4))
	holds(t, "some", o, []api.Pair{pair(1, 2)})
	o.Step()
	o.Step()
	none(api.OK)
	ends(t, o, api.OK, true)
	none(api.ErrClosed)
	waits(t, "ended", o)
	holds(t, "ended", o, []api.Pair{pair(1, 2), pair(3, 4)})
	bare := made(t, 0, 1)
	sends(t, bare, api.OK)
	ends(t, bare, api.OK, true)
	sends(t, bare, api.ErrClosed)
}

// TestSendEnded: P22.2; ErrClosed to one that has ended, ahead of all that would be ErrArg, and for ever.
func TestSendEnded(t *testing.T) {
	o := made(t, 0, 2, plain(2), bounded(1))
	does(t, o, ask(0, api.MapPut, 0, 7), api.Res{})
	ends(t, o, api.OK, true)
	for range 3 {
		sends(t, o, api.ErrClosed)
		sends(t, o, api.ErrClosed, walk(0))
		sends(t, o, api.ErrClosed, ask(0, api.MapPut, 2, 1), ask(1, api.MapPut, 2, 1))
		sends(t, o, api.ErrClosed, wrongs()...)
		for _, q := range wrongs() {
			sends(t, o, api.ErrClosed, q)
			sends(t, o, api.ErrClosed, walk(0), q, walk(1))
		}
		waits(t, "ended", o)
		stepsNone(t, o)
		holds(t, "ended", o, []api.Pair{pair(0, 7)}, nil)
		ends(t, o, api.OK, true)
	}
}

// TestStepNone: P22.3; the zero Reply and false, with an empty line: a new one, one whose line was done, one that has ended, and without a map.
func TestStepNone(t *testing.T) {
	o := made(t, 0, 1, plain(2))
	stepsNone(t, o)
	does(t, o, ask(0, api.MapPut, 1, 2), api.Res{})
	for range 3 {
		stepsNone(t, o)
	}
	open(t, "behind Steps of none", o)
	holds(t, "behind Steps of none", o, []api.Pair{pair(1, 2)})
	does(t, o, ask(0, api.MapGet, 1, 0), api.Res{Found: true, Val: 2})
	ends(t, o, api.OK, true)
	stepsNone(t, o)
	stepsNone(t, o)
	holds(t, "ended", o, []api.Pair{pair(1, 2)})
	bare := made(t, 3, 4)
	stepsNone(t, bare)
	ends(t, bare, api.OK, true)
	stepsNone(t, bare)
}

// TestStepOp: P22.3; each operation at a key that is there and at one that is not, while there is room and in a full map, of each kind.
func TestStepOp(t *testing.T) {
	three, four := []api.Pair{pair(3, 30), pair(4, 40)}, []api.Pair{pair(4, 40), pair(9, 5)}
	full, out := api.Res{E: api.ErrFull}, api.Res{Out: true, OutKey: 3, OutVal: 30}
	added := out
	added.Val = 5
	for _, c := range []struct {
		d     api.MapDef
		op    api.MapOp
		key   uint64
		r     api.Res
		pairs []api.Pair
	}{
		{plain(2), api.MapGet, 3, api.Res{Found: true, Val: 30}, three},
		{plain(2), api.MapGet, 9, api.Res{}, three},
		{plain(2), api.MapHas, 3, api.Res{Found: true}, three},
		{plain(2), api.MapHas, 9, api.Res{}, three},
		{plain(2), api.MapPut, 3, api.Res{Found: true, Val: 30}, []api.Pair{pair(3, 5), pair(4, 40)}},
		{plain(2), api.MapPut, 9, full, three},
		{plain(2), api.MapDel, 3, api.Res{Found: true, Val: 30}, three[1:]},
		{plain(2), api.MapDel, 9, api.Res{}, three},
		{plain(2), api.MapAdd, 3, api.Res{Found: true, Val: 35}, []api.Pair{pair(3, 35), pair(4, 40)}},
		{plain(2), api.MapAdd, 9, full, three},
		{bounded(2), api.MapGet, 3, api.Res{Found: true, Val: 30}, three},
		{bounded(2), api.MapGet, 9, api.Res{}, three},
		{bounded(2), api.MapHas, 3, api.Res{Found: true}, three},
		{bounded(2), api.MapHas, 9, api.Res{}, three},
		{bounded(2), api.MapPut, 3, api.Res{Found: true, Val: 30}, []api.Pair{pair(3, 5), pair(4, 40)}},
		{bounded(2), api.MapPut, 9, out, four},
		{bounded(2), api.MapDel, 3, api.Res{Found: true, Val: 30}, three[1:]},
		{bounded(2), api.MapDel, 9, api.Res{}, three},
		{bounded(2), api.MapAdd, 3, api.Res{Found: true, Val: 35}, []api.Pair{pair(3, 35), pair(4, 40)}},
		{bounded(2), api.MapAdd, 9, added, four},
		{plain(3), api.MapPut, 9, api.Res{}, []api.Pair{pair(3, 30), pair(4, 40), pair(9, 5)}},
		{bounded(3), api.MapAdd, 9, api.Res{Val: 5}, []api.Pair{pair(3, 30), pair(4, 40), pair(9, 5)}},
	} {
		o, q := holding(t, c.d, three...), by(4, 8, ask(0, c.op, c.key, 5))
		sends(t, o, api.OK, q)
		holds(t, "sent and not done", o, three)
		steps(t, o, api.Reply{To: 4, Tag: 8, Item: q.Item, Res: c.r})
		waits(t, "done", o)
		holds(t, "done", o, c.pairs)
		stepsNone(t, o)
	}
}

// TestStepValues: P22.3; keys and values at their ends go in and come out as they are, sums modulo 2^64.
func TestStepValues(t *testing.T) {
	for _, key := range edges() {
		for _, val := range edges() {
			o := made(t, place.Of(key, 3), 3, plain(1))
			does(t, o, ask(0, api.MapPut, key, val), api.Res{})
			does(t, o, ask(0, api.MapGet, key, most), api.Res{Found: true, Val: val})
			walks(t, o, 0, pair(key, val))
			does(t, o, ask(0, api.MapAdd, key, val), api.Res{Found: true, Val: 2 * val})
			does(t, o, ask(0, api.MapDel, key, 1), api.Res{Found: true, Val: 2 * val})
			holds(t, "deleted", o, nil)
		}
	}
}

// TestStepFirst: P22.3; a Step does the first request alone, and each leaves the line in its turn.
func TestStepFirst(t *testing.T) {
	o := made(t, 0, 1, plain(4))
	var qs []api.Request
	for k := range uint64(4) {
		qs = append(qs, by(int(k), 9-int(k), ask(0, api.MapPut, 3-k, 10+k)))
	}
	sends(t, o, api.OK, qs...)
	for i, pairs := range [][]api.Pair{nil, {pair(3, 10)}, {pair(2, 11), pair(3, 10)}, {pair(1, 12), pair(2, 11), pair(3, 10)}, {pair(0, 13), pair(1, 12), pair(2, 11), pair(3, 10)}} {
		waits(t, "in turns", o, qs[i:]...)
		holds(t, "in turns", o, pairs)
		if i < len(qs) {
			steps(t, o, api.Reply{To: i, Tag: 9 - i, Item: qs[i].Item})
		}
	}
	stepsNone(t, o)
}

// TestFromAndTag: P22.3; any numbers, of an operation and of a walk, come back as To and Tag and mean nothing else.
func TestFromAndTag(t *testing.T) {
	o := made(t, 0, 1, plain(2))
	for _, from := range numbers() {
		for _, tag := range numbers() {
			a, b := by(from, tag, ask(0, api.MapPut, 1, 2)), by(from, tag, walk(0))
			sends(t, o, api.OK, a, b)
			waits(t, "both", o, a, b)
			if got, ok := o.Step(); !ok || got.To != from || got.Tag != tag || got.Walk || got.Res.E != api.OK || len(got.Pairs) != 0 {
				t.Errorf("from %d, tag %d: %v, %t", from, tag, got, ok)
			}
			steps(t, o, api.Reply{To: from, Tag: tag, Walk: true, Pairs: []api.Pair{pair(1, 2)}})
		}
	}
}

// TestStepWalk: P22.3; of an empty map, of one with some and of a full one, of each kind; the reply has the whole Item that was sent, and no Res.
func TestStepWalk(t *testing.T) {
	for _, d := range both(3) {
		o := made(t, 1, 2, plain(1), d)
		item := api.Item{Map: 1, Op: -7, Key: most, Val: 99}
		var pairs []api.Pair
		for _, k := range []uint64{1, 4, 5} {
			sends(t, o, api.OK, api.Request{From: 2, Tag: 3, Walk: true, Item: item})
			steps(t, o, api.Reply{To: 2, Tag: 3, Walk: true, Item: item, Pairs: pairs})
			does(t, o, ask(1, api.MapPut, k, 10*k), api.Res{})
			pairs = append(pairs, pair(k, 10*k))
		}
		sends(t, o, api.OK, api.Request{From: 2, Tag: 3, Walk: true, Item: item})
		steps(t, o, api.Reply{To: 2, Tag: 3, Walk: true, Item: item, Pairs: pairs})
		walks(t, o, 0)
		holds(t, "walked", o, nil, pairs)
	}
	full := made(t, 0, 1, bounded(16))
	var pairs []api.Pair
	for k := uint64(16); k > 0; k-- {
		does(t, full, ask(0, api.MapPut, k, k*k), api.Res{})
		pairs = slices.Insert(pairs, 0, pair(k, k*k))
	}
	walks(t, full, 0, pairs...)
}

// TestWalkIsNoOperation: P22.3; a walk whose Item names a lawful operation at a key of this shard does none of it.
func TestWalkIsNoOperation(t *testing.T) {
	for _, op := range lawful() {
		o := holding(t, bounded(2), pair(1, 10), pair(2, 20))
		q := ask(0, op, 1, 5)
		q.Walk = true
		sends(t, o, api.OK, q)
		steps(t, o, api.Reply{Walk: true, Item: q.Item, Pairs: []api.Pair{pair(1, 10), pair(2, 20)}})
		does(t, o, ask(0, api.MapPut, 3, 30), api.Res{Out: true, OutKey: 1, OutVal: 10})
	}
}

// TestWalkAtItsTurn: P22.3; a walk holds the pairs as they are at its turn, not as they were when it was sent or will be.
func TestWalkAtItsTurn(t *testing.T) {
	for _, d := range both(2) {
		o := holding(t, d, pair(1, 10))
		sends(t, o, api.OK, walk(0), ask(0, api.MapPut, 2, 20), walk(0), ask(0, api.MapDel, 1, 0), walk(0), ask(0, api.MapAdd, 2, 1))
		steps(t, o, api.Reply{Walk: true, Pairs: []api.Pair{pair(1, 10)}})
		o.Step()
		steps(t, o, api.Reply{Walk: true, Pairs: []api.Pair{pair(1, 10), pair(2, 20)}})
		o.Step()
		steps(t, o, api.Reply{Walk: true, Pairs: []api.Pair{pair(2, 20)}})
		o.Step()
		holds(t, "all done", o, []api.Pair{pair(2, 21)})
	}
}

// TestReadingTouchesNothing: P22.3, P22.4; walks, Pairs, Waiting and requests that only wait leave the order in which a bounded map evicts.
func TestReadingTouchesNothing(t *testing.T) {
	o := holding(t, bounded(3), pair(1, 10), pair(2, 20), pair(3, 30))
	walks(t, o, 0, pair(1, 10), pair(2, 20), pair(3, 30))
	sends(t, o, api.OK, ask(0, api.MapPut, 4, 40), ask(0, api.MapGet, 1, 0))
	o.Waiting()
	holds(t, "waiting", o, []api.Pair{pair(1, 10), pair(2, 20), pair(3, 30)})
	steps(t, o, api.Reply{Item: ask(0, api.MapPut, 4, 40).Item, Res: api.Res{Out: true, OutKey: 1, OutVal: 10}})
	steps(t, o, api.Reply{Item: ask(0, api.MapGet, 1, 0).Item})
	does(t, o, ask(0, api.MapGet, 2, 0), api.Res{Found: true, Val: 20})
	does(t, o, ask(0, api.MapHas, 3, 0), api.Res{Found: true})
	does(t, o, ask(0, api.MapAdd, 5, 50), api.Res{Val: 50, Out: true, OutKey: 3, OutVal: 30})
}

// TestMapsApart: P22.3; one key in all maps: what is done to one map is seen in no other.
func TestMapsApart(t *testing.T) {
	o := made(t, 0, 1, plain(1), bounded(1), plain(2), bounded(2))
	for m := range 4 {
		does(t, o, ask(m, api.MapPut, 7, uint64(m)), api.Res{})
	}
	does(t, o, ask(1, api.MapDel, 7, 0), api.Res{Found: true, Val: 1})
	does(t, o, ask(2, api.MapAdd, 7, 5), api.Res{Found: true, Val: 7})
	does(t, o, ask(3, api.MapGet, 7, 0), api.Res{Found: true, Val: 3})
	holds(t, "one key", o, []api.Pair{pair(7, 0)}, nil, []api.Pair{pair(7, 7)}, []api.Pair{pair(7, 3)})
	for m, ps := range [][]api.Pair{{pair(7, 0)}, nil, {pair(7, 7)}, {pair(7, 3)}} {
		walks(t, o, m, ps...)
	}
}

// TestWaiting: P22.4; with none, with one, with several, behind Steps, behind an End.
func TestWaiting(t *testing.T) {
	o, qs := made(t, 0, 2, plain(2)), []api.Request{by(1, 2, ask(0, api.MapPut, 0, 7)), by(3, 4, api.Request{Walk: true, Item: api.Item{Op: 77, Key: 1, Val: 5}}), {}}
	waits(t, "none", o)
	sends(t, o, api.OK, qs[0])
	waits(t, "one", o, qs[0])
	sends(t, o, api.OK, qs[1:]...)
	for range 3 {
		waits(t, "several", o, qs...)
	}
	for i := range qs {
		o.Step()
		waits(t, "behind a Step", o, qs[i+1:]...)
	}
	sends(t, o, api.OK, qs[1])
	ends(t, o, api.ErrBusy, false)
	waits(t, "behind an End that was refused", o, qs[1])
	o.Step()
	ends(t, o, api.OK, true)
	waits(t, "ended", o)
}

// TestPairs: P22.4; of each map, keys rising; ErrArg of all other numbers; ahead of and behind an End.
func TestPairs(t *testing.T) {
	for maps := range 5 {
		o, w := made(t, 0, 1, slices.Repeat([]api.MapDef{bounded(5)}, maps)...), make([][]api.Pair, maps)
		for m := range maps {
			for _, k := range []uint64{most, 5, 0, 1 << 63, 3} {
				does(t, o, ask(m, api.MapPut, k, uint64(m)), api.Res{})
			}
			for _, k := range []uint64{0, 3, 5, 1 << 63, most} {
				w[m] = append(w[m], pair(k, uint64(m)))
			}
			holds(t, "one map more", o, w...)
		}
		for range 2 {
			for _, m := range numbers() {
				got, e := o.Pairs(m)
				if m >= 0 && m < maps {
					if e != api.OK || !slices.Equal(got, w[m]) {
						t.Errorf("%d maps: Pairs(%d) %v, %v, want %v", maps, m, got, e, w[m])
					}
				} else if e != api.ErrArg || len(got) != 0 {
					t.Errorf("%d maps: Pairs(%d) %v, %v", maps, m, got, e)
				}
			}
			ends(t, o, api.OK, true)
		}
	}
}

// TestEnd: P22.4; ErrBusy with a line, which changes nothing; OK with none; OK once more; Ended behind each call.
func TestEnd(t *testing.T) {
	o := made(t, 0, 2, plain(1))
	open(t, "new", o)
	sends(t, o, api.OK, walk(0), ask(0, api.MapPut, 0, 7))
	open(t, "behind Send", o)
	for range 3 {
		ends(t, o, api.ErrBusy, false)
	}
	waits(t, "behind End", o, walk(0), ask(0, api.MapPut, 0, 7))
	o.Step()
	open(t, "behind Step", o)
	ends(t, o, api.ErrBusy, false)
	sends(t, o, api.ErrArg, walk(1))
	sends(t, o, api.OK)
	open(t, "behind Sends that change nothing", o)
	holds(t, "one is left", o, nil)
	steps(t, o, api.Reply{Item: ask(0, api.MapPut, 0, 7).Item})
	stepsNone(t, o)
	open(t, "behind the last Step", o)
	holds(t, "all done", o, []api.Pair{pair(0, 7)})
	open(t, "behind Pairs", o)
	for range 3 {
		ends(t, o, api.OK, true)
		sends(t, o, api.ErrClosed, walk(0))
		stepsNone(t, o)
		waits(t, "ended", o)
		holds(t, "ended", o, []api.Pair{pair(0, 7)})
		if !o.Ended() {
			t.Error("it has ended no more")
		}
	}
	bare := made(t, 3, 4)
	ends(t, bare, api.OK, true)
	ends(t, bare, api.OK, true)
}

// TestRefusedEnd: P22.4; an End that was refused closes nothing: what waits is done, and more may be sent.
func TestRefusedEnd(t *testing.T) {
	o := made(t, 0, 1, bounded(1))
	sends(t, o, api.OK, ask(0, api.MapPut, 1, 1))
	ends(t, o, api.ErrBusy, false)
	sends(t, o, api.OK, ask(0, api.MapPut, 2, 2))
	steps(t, o, api.Reply{Item: ask(0, api.MapPut, 1, 1).Item})
	ends(t, o, api.ErrBusy, false)
	steps(t, o, api.Reply{Item: ask(0, api.MapPut, 2, 2).Item, Res: api.Res{Out: true, OutKey: 1, OutVal: 1}})
	ends(t, o, api.OK, true)
	holds(t, "ended", o, []api.Pair{pair(2, 2)})
}

// TestLongLine: P22.3, P22.5; far more requests than any shard holds keys, sent at once, are all done, in order, and in good time.
func TestLongLine(t *testing.T) {
	for _, d := range both(16) {
		const many = 200000
		o, w := made(t, 0, 1, d), toldOf(0, 1, d)
		qs := make([]api.Request, many)
		for i := range qs {
			qs[i] = by(i, -i, ask(0, lawful()[i%5], uint64(i%37), uint64(i)))
			qs[i].Walk = i%101 == 0
		}
		sends(t, o, api.OK, qs...)
		w.send(qs)
		for i := range qs {
			want, _ := w.step()
			if got, ok := o.Step(); !ok || !sameReply(got, want) {
				t.Fatalf("%v, request %d: %v, %t, want %v", d, i, got, ok, want)
			}
		}
		stepsNone(t, o)
		ends(t, o, api.OK, true)
	}
}

// TestLinesOfAllLengths: P22.2, P22.3; a line that is kept at a length, while thousands pass through, and one that is filled and emptied over and over.
func TestLinesOfAllLengths(t *testing.T) {
	for length := 1; length <= 40; length++ {
		o := made(t, 0, 1, plain(16))
		next, done := 0, 0
		fill := func(many int) {
			for range many {
				sends(t, o, api.OK, by(next, 2*next, ask(0, api.MapPut, uint64(next%16), uint64(next))))
				next++
			}
		}
		empty := func(many int) {
			for range many {
				if got, ok := o.Step(); !ok || got.To != done || got.Tag != 2*done || got.Item.Val != uint64(done) {
					t.Fatalf("length %d: %v, %t, want from %d", length, got, ok, done)
				}
				done++
			}
		}
		fill(length)
		for range 500 {
			fill(1)
			empty(1)
		}
		if got := len(o.Waiting()); got != length {
			t.Fatalf("length %d: %d wait", length, got)
		}
		empty(length)
		for range 20 {
			fill(length)
			empty(length)
			stepsNone(t, o)
			waits(t, "emptied", o)
		}
	}
}

// spoil writes over a list, its spare room included, and appends to it.
func spoil[T any](list []T, with T) {
	all := list[:cap(list)]
	for i := range all {
		all[i] = with
	}
	_ = append(list, with)
}

// TestSendKeepsNothing: P22.5, rule 5; what is handed to Send stays as it was, its spare room included, and may be written over, in an empty line and behind others.
func TestSendKeepsNothing(t *testing.T) {
	for ahead := range 6 {
		for many := range 6 {
			for gone := 0; gone <= ahead; gone++ {
				o := made(t, 0, 1, plain(16))
				var line []api.Request
				for i := range ahead {
					line = append(line, by(i, i, walk(0)))
				}
				sends(t, o, api.OK, line...)
				for range gone {
					o.Step()
				}
				whole := make([]api.Request, 12)
				for i := range whole {
					whole[i] = by(100+i, 200+i, ask(0, api.MapAdd, uint64(i), 1))
				}
				kept := slices.Clone(whole)
				qs := whole[2 : 2+many]
				sends(t, o, api.OK, qs...)
				sends(t, o, api.ErrArg, append(slices.Clone(qs), badRequest())...)
				o.Step()
				o.Step()
				if !slices.Equal(whole, kept) {
					t.Fatalf("Send changed what it was handed: %v", whole)
				}
				spoil(qs, badRequest())
				left := append(line[gone:], kept[2:2+many]...)
				waits(t, "behind writing to the list", o, left[min(2, len(left)):]...)
				sends(t, o, api.OK, walk(0))
				for i := range 2 {
					if whole[i] != kept[i] {
						t.Fatalf("Send changed what it was handed: %v", whole)
					}
				}
				if many > 0 && qs[0] != badRequest() {
					t.Fatalf("Send wrote to what it was handed earlier: %v", qs)
				}
			}
		}
	}
}

// TestAnswersAreNew: P22.5; what Waiting, Pairs and Step answered may be written over and appended to, at every length of the line and every fill of the map, and nothing changes.
func TestAnswersAreNew(t *testing.T) {
	bad := pair(666, 666)
	for _, d := range both(16) {
		for fill := range 17 {
			for length := range 6 {
				o := made(t, 0, 1, d)
				var pairs []api.Pair
				for k := range uint64(fill) {
					does(t, o, ask(0, api.MapPut, k, k+1), api.Res{})
					pairs = append(pairs, pair(k, k+1))
				}
				line := slices.Repeat([]api.Request{walk(0)}, length)
				sends(t, o, api.OK, line...)
				for left := length; left > 0; left-- {
					spoil(o.Waiting(), badRequest())
					got, _ := o.Pairs(0)
					spoil(got, bad)
					waits(t, "spoilt", o, line[:left]...)
					holds(t, "spoilt", o, pairs)
					r, ok := o.Step()
					if !ok || !slices.Equal(r.Pairs, pairs) {
						t.Fatalf("Step: %v, %t, want %v", r, ok, pairs)
					}
					spoil(r.Pairs, bad)
					holds(t, "the reply spoilt", o, pairs)
				}
				spoil(o.Waiting(), badRequest())
				sends(t, o, api.OK, line...)
				waits(t, "sent again", o, line...)
			}
		}
	}
}

// TestAnswersStay: P22.5; what was answered stays as it was, whatever is done to the owner and to other answers.
func TestAnswersStay(t *testing.T) {
	bad := pair(666, 666)
	for _, d := range both(4) {
		o := holding(t, d, pair(1, 10), pair(2, 20))
		line := []api.Request{walk(0), by(1, 1, walk(0)), ask(0, api.MapPut, 1, 99), ask(0, api.MapDel, 2, 0), ask(0, api.MapPut, 0, 1)}
		sends(t, o, api.OK, line...)
		first, second := o.Waiting(), o.Waiting()
		one, _ := o.Step()
		two, _ := o.Step()
		held, _ := o.Pairs(0)
		other, _ := o.Pairs(0)
		third := o.Waiting()
		spoil(second, badRequest())
		spoil(two.Pairs, bad)
		spoil(other, bad)
		for range 3 {
			o.Step()
		}
		sends(t, o, api.OK, slices.Repeat([]api.Request{by(7, 7, ask(0, api.MapPut, 3, 9))}, 9)...)
		o.Step()
		spoil(o.Waiting(), badRequest())
		was := []api.Pair{pair(1, 10), pair(2, 20)}
		if !slices.Equal(first, line) || !slices.Equal(third, line[2:]) {
			t.Errorf("%v: Waiting's answers have become %v, %v", d, first, third)
		}
		if !slices.Equal(one.Pairs, was) || !slices.Equal(held, was) {
			t.Errorf("%v: the pairs have become %v, %v", d, one.Pairs, held)
		}
	}
}

// TestAskingChangesNothing: rule 7; Waiting, Pairs, Ended, Step of none, Send of none, what is refused, and an End that is: all stays.
func TestAskingChangesNothing(t *testing.T) {
	o := holding(t, bounded(2), pair(1, 10), pair(2, 20))
	for range 50 {
		o.Waiting()
		o.Pairs(0)
		o.Pairs(1)
		o.Pairs(-1)
		o.Ended()
		o.Send()
		o.Send(badRequest())
		stepsNone(t, o)
	}
	sends(t, o, api.OK, ask(0, api.MapPut, 3, 30))
	for range 50 {
		ends(t, o, api.ErrBusy, false)
	}
	steps(t, o, api.Reply{Item: ask(0, api.MapPut, 3, 30).Item, Res: api.Res{Out: true, OutKey: 1, OutVal: 10}})
	holds(t, "in the end", o, []api.Pair{pair(2, 20), pair(3, 30)})
}

// TestApart: P22.5; what is done to one owner is seen in no other, of those made ahead of it and behind it, of one shard and of two.
func TestApart(t *testing.T) {
	for _, d := range both(2) {
		a, b, c := made(t, 0, 2, d), made(t, 0, 2, d), made(t, 1, 2, d)
		sends(t, a, api.OK, ask(0, api.MapPut, 0, 1), ask(0, api.MapPut, 2, 2), walk(0))
		waits(t, "b", b)
		waits(t, "c", c)
		stepsNone(t, b)
		a.Step()
		holds(t, "b", b, nil)
		holds(t, "c", c, nil)
		ends(t, b, api.OK, true)
		open(t, "a", a)
		open(t, "c", c)
		sends(t, c, api.OK, ask(0, api.MapPut, 1, 5))
		waits(t, "a", a, ask(0, api.MapPut, 2, 2), walk(0))
		c.Step()
		holds(t, "a", a, []api.Pair{pair(0, 1)})
		holds(t, "b", b, nil)
		holds(t, "c", c, []api.Pair{pair(1, 5)})
		fresh(t, 0, 2, d)
	}
}

// TestEveryShard: P22.2, P22.3; owners of each shard of each number of shards hold their own keys, as many as the map's cap.
func TestEveryShard(t *testing.T) {
	for shards := 1; shards <= 4; shards++ {
		for shard := range shards {
			o, keys := made(t, shard, shards, plain(16)), keysIn(shard, shards, 17)
			var pairs []api.Pair
			for _, k := range keys[:16] {
				does(t, o, ask(0, api.MapPut, k, 2*k), api.Res{})
				pairs = append(pairs, pair(k, 2*k))
			}
			does(t, o, ask(0, api.MapPut, keys[16], 1), api.Res{E: api.ErrFull})
			walks(t, o, 0, pairs...)
			holds(t, "full", o, pairs)
		}
	}
}
