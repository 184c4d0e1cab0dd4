package cmap_test

import (
	"cmp"
	"encoding/binary"
	"math"
	"math/rand"
	"slices"
	"testing"

	"tappet/api"
	"tappet/cmap"
	"tappet/place"
)

const most = uint64(math.MaxUint64)

// lists is what the chapter tells of a map: a plain list of pairs for each shard, the one touched last first. Layer 12 tells which list has a key.
type lists struct {
	def   api.MapDef
	parts [][]api.Pair
}

// listsOf are empty lists.
func listsOf(d api.MapDef, shards int) *lists {
	return &lists{def: d, parts: make([][]api.Pair, shards)}
}

// do is P15.3, with layers 13 and 14 told anew.
func (m *lists) do(op api.MapOp, key, val uint64) api.Res {
	if op < 0 || op > 4 {
		return api.Res{E: 2}
	}
	list := &m.parts[place.Of(key, len(m.parts))]
	at := slices.IndexFunc(*list, func(p api.Pair) bool { return p.Key == key })
	r := api.Res{Found: at >= 0}
	if r.Found {
		r.Val = (*list)[at].Val
	}
	switch op {
	case api.MapHas:
		r.Val = 0
		return r
	case api.MapGet:
		val = r.Val
	case api.MapAdd:
		val += r.Val
		r.Val = val
	}
	if puts := op == api.MapPut || op == api.MapAdd; puts && !r.Found && len(*list) == m.def.Cap {
		if m.def.Kind == api.Plain {
			return api.Res{E: 40}
		}
		last := (*list)[m.def.Cap-1]
		*list = (*list)[:m.def.Cap-1]
		r.Out, r.OutKey, r.OutVal = true, last.Key, last.Val
	} else if !puts && !r.Found {
		return r
	}
	if r.Found {
		*list = slices.Delete(*list, at, at+1)
	}
	if op != api.MapDel {
		*list = slices.Insert(*list, 0, pair(key, val))
	}
	return r
}

// part are a list's pairs, keys rising.
func (m *lists) part(shard int) []api.Pair {
	return sorted(m.parts[shard])
}

// walk are all of them.
func (m *lists) walk() []api.Pair {
	var ps []api.Pair
	for shard := range m.parts {
		ps = append(ps, m.part(shard)...)
	}
	return ps
}

// sorted are pairs with their keys rising.
func sorted(ps []api.Pair) []api.Pair {
	out := slices.Clone(ps)
	slices.SortFunc(out, func(p, q api.Pair) int { return cmp.Compare(p.Key, q.Key) })
	return out
}

// pair is one, in few letters.
func pair(key, val uint64) api.Pair {
	return api.Pair{Key: key, Val: val}
}

// agree fails where what can be read of a map isn't what the lists tell.
func agree(t *testing.T, when string, m *cmap.Map, w *lists) {
	t.Helper()
	for shard := range w.parts {
		if got, e := m.Part(shard); e != api.OK || !slices.Equal(got, w.part(shard)) {
			t.Fatalf("%s: Part(%d) %v, %v, want %v", when, shard, got, e, w.part(shard))
		}
	}
	if got, e := m.Part(len(w.parts)); len(got) != 0 || e != api.ErrArg {
		t.Fatalf("%s: Part(%d) %v, %v", when, len(w.parts), got, e)
	}
	if got := m.Walk(); !slices.Equal(got, w.walk()) {
		t.Fatalf("%s: Walk %v, want %v", when, got, w.walk())
	}
	if m.Len() != len(w.walk()) || m.Def() != w.def {
		t.Fatalf("%s: Len %d, Def %v, want %d, %v", when, m.Len(), m.Def(), len(w.walk()), w.def)
	}
}

// answer is what a step was answered, and what can be read of the map behind it.
type answer struct {
	rs    []api.Res
	parts [][]api.Pair
	walk  []api.Pair
	size  int
	def   api.MapDef
}

// same tells whether two answers are equal, where nil and empty are one.
func same(a, b answer) bool {
	return slices.Equal(a.rs, b.rs) && slices.EqualFunc(a.parts, b.parts, slices.Equal[[]api.Pair]) &&
		slices.Equal(a.walk, b.walk) && a.size == b.size && a.def == b.def
}

// play does a step on a map: Do of one item, Batch of any other number.
func play(m *cmap.Map, is []api.Item) answer {
	var a answer
	if len(is) == 1 {
		a.rs = []api.Res{m.Do(is[0].Op, is[0].Key, is[0].Val)}
	} else {
		a.rs = m.Batch(is...)
	}
	for shard := range 5 {
		ps, _ := m.Part(shard)
		a.parts = append(a.parts, ps)
	}
	a.walk, a.size, a.def = m.Walk(), m.Len(), m.Def()
	return a
}

// tell is what play must answer.
func tell(w *lists, is []api.Item) answer {
	a := answer{parts: make([][]api.Pair, 5), def: w.def}
	for _, i := range is {
		a.rs = append(a.rs, w.do(i.Op, i.Key, i.Val))
	}
	for shard := range w.parts {
		a.parts[shard] = w.part(shard)
	}
	a.walk = w.walk()
	a.size = len(a.walk)
	return a
}

// some is a number out of a few, so that keys come again, or any.
func some(r *rand.Rand, few int) uint64 {
	switch r.Intn(10) {
	case 0:
		return edges()[r.Intn(len(edges()))]
	case 1:
		return r.Uint64()
	}
	return uint64(r.Intn(few))
}

// script is a random list of steps: single items, and lists of any length; most operations are lawful.
func script(r *rand.Rand, many, few int) [][]api.Item {
	out := make([][]api.Item, many)
	for at := range out {
		items := 1
		if r.Intn(6) == 0 {
			items = r.Intn(20)
		}
		for range items {
			i := api.Item{Map: r.Intn(9) - 4, Op: lawful()[r.Intn(5)], Key: some(r, few), Val: some(r, 50)}
			if r.Intn(16) == 0 {
				i.Op = otherOps()[r.Intn(len(otherOps()))]
			}
			out[at] = append(out[at], i)
		}
	}
	return out
}

// defs are all shapes of a map's shard that there may be.
func defs() []api.MapDef {
	var ds []api.MapDef
	for _, k := range []api.MapKind{api.Plain, api.Bounded} {
		for room := 1; room <= 16; room++ {
			ds = append(ds, api.MapDef{Kind: k, Cap: room})
		}
	}
	return ds
}

// TestTold: P15.2 to P15.5; random scripts, held call by call against plain lists, one a shard, for each kind, each cap and each number of shards.
func TestTold(t *testing.T) {
	r := rand.New(rand.NewSource(15))
	for range 6 {
		for _, d := range defs() {
			for shards := 1; shards <= 4; shards++ {
				m, w := made(t, d, shards), listsOf(d, shards)
				for i, is := range script(r, 120, 3*shards*d.Cap+2) {
					if got, want := play(m, is), tell(w, is); !same(got, want) {
						t.Fatalf("%v, %d shards, step %d, %v: %v, want %v", d, shards, i, is, got, want)
					}
				}
			}
		}
	}
}

// TestShardByShard: P15.3, P15.5; a map answers what shards that Make made answer side by side, each asked for its own keys alone.
func TestShardByShard(t *testing.T) {
	r := rand.New(rand.NewSource(1503))
	for _, d := range defs() {
		for n := 1; n <= 4; n++ {
			m := made(t, d, n)
			var ss []cmap.Shard
			for range n {
				s, _ := cmap.Make(d)
				ss = append(ss, s)
			}
			for _, is := range script(r, 100, 3*n*d.Cap+2) {
				rs := m.Batch(is...)
				for at, i := range is {
					if w := ss[place.Of(i.Key, n)].Do(i.Op, i.Key, i.Val); rs[at] != w {
						t.Fatalf("%v, %d shards, %v: %v, want %v", d, n, i, rs[at], w)
					}
				}
				for shard, s := range ss {
					if ps, e := m.Part(shard); e != api.OK || !slices.Equal(ps, s.Pairs()) {
						t.Fatalf("%v, %d shards: Part(%d) %v, %v, want %v", d, n, shard, ps, e, s.Pairs())
					}
				}
			}
		}
	}
}

// TestOneShardAlone: P15.5; behind an operation each shard but the key's is as it was, no key is in two shards, and what was refused or evicted was so by the key's own shard.
func TestOneShardAlone(t *testing.T) {
	r := rand.New(rand.NewSource(1505))
	for _, d := range defs() {
		for n := 1; n <= 4; n++ {
			m := made(t, d, n)
			for _, is := range script(r, 150, 3*n*d.Cap+2) {
				if len(is) == 0 {
					continue
				}
				i, was := is[0], partsOf(t, m, n)
				res, parts, home := m.Do(i.Op, i.Key, i.Val), partsOf(t, m, n), place.Of(i.Key, n)
				for shard := range n {
					if shard != home && !slices.Equal(was[shard], parts[shard]) {
						t.Fatalf("%v, %d shards, %v: shard %d was %v and is %v", d, n, i, shard, was[shard], parts[shard])
					}
					if len(parts[shard]) > d.Cap {
						t.Fatalf("%v, %d shards, %v: shard %d holds %v", d, n, i, shard, parts[shard])
					}
					for _, p := range parts[shard] {
						if place.Of(p.Key, n) != shard {
							t.Fatalf("%v, %d shards, %v: shard %d holds %v", d, n, i, shard, p)
						}
					}
				}
				full := len(was[home]) == d.Cap && (i.Op == api.MapPut || i.Op == api.MapAdd) && !slices.ContainsFunc(was[home], func(p api.Pair) bool { return p.Key == i.Key })
				if (res.E == api.ErrFull) != (full && d.Kind == api.Plain) || res.Out != (full && d.Kind == api.Bounded) {
					t.Fatalf("%v, %d shards, %v behind %v: %v", d, n, i, was, res)
				}
				if res.Out && (!slices.Contains(was[home], pair(res.OutKey, res.OutVal)) || slices.Contains(parts[home], pair(res.OutKey, res.OutVal))) {
					t.Fatalf("%v, %d shards, %v behind %v: %v", d, n, i, was, res)
				}
			}
		}
	}
}

// partsOf are the parts of all shards.
func partsOf(t *testing.T, m *cmap.Map, shards int) [][]api.Pair {
	t.Helper()
	var out [][]api.Pair
	for shard := range shards {
		ps, e := m.Part(shard)
		if e != api.OK {
			t.Fatalf("Part(%d): %v", shard, e)
		}
		out = append(out, ps)
	}
	return out
}

// TestTurns: P15.5; two maps in turns, in any turns, answer as each alone, of one shape and of two.
func TestTurns(t *testing.T) {
	r := rand.New(rand.NewSource(155))
	for range 200 {
		ds := [2]api.MapDef{defs()[r.Intn(32)], defs()[r.Intn(32)]}
		shards := [2]int{1 + r.Intn(4), 1 + r.Intn(4)}
		if r.Intn(2) == 0 {
			ds[1], shards[1] = ds[0], shards[0]
		}
		var scripts [2][][]api.Item
		var alone, turns [2][]answer
		var ms [2]*cmap.Map
		for i := range 2 {
			scripts[i] = script(r, 60, 40)
			m := made(t, ds[i], shards[i])
			for _, is := range scripts[i] {
				alone[i] = append(alone[i], play(m, is))
			}
			ms[i] = made(t, ds[i], shards[i])
		}
		for len(turns[0])+len(turns[1]) < 120 {
			i := r.Intn(2)
			if at := len(turns[i]); at < 60 {
				turns[i] = append(turns[i], play(ms[i], scripts[i][at]))
			}
		}
		for i := range 2 {
			if !slices.EqualFunc(alone[i], turns[i], same) {
				t.Fatalf("%v, %v shards, map %d in turns: %v, want %v", ds, shards, i, turns[i], alone[i])
			}
		}
	}
}

// TestAnswersHangOnCallsAlone: one script on two maps, with calls between that change nothing on the one: the same answers.
func TestAnswersHangOnCallsAlone(t *testing.T) {
	r := rand.New(rand.NewSource(7))
	for _, d := range defs() {
		n := 1 + r.Intn(4)
		a, b := made(t, d, n), made(t, d, n)
		for _, is := range script(r, 150, 3*n*d.Cap+2) {
			for range r.Intn(3) {
				b.Do(api.MapHas, some(r, 40), some(r, 40))
				b.Batch(api.Item{Op: 9, Key: some(r, 40)}, api.Item{Op: -1, Key: some(r, 40)}, api.Item{Op: api.MapHas, Key: some(r, 40)})
				b.Batch()
				b.Walk()
				b.Part(r.Intn(7) - 1)
			}
			if got, w := play(b, is), play(a, is); !same(got, w) {
				t.Fatalf("%v, %d shards, %v: %v, want %v", d, n, is, got, w)
			}
		}
	}
}

// FuzzTold: bytes read as a shape and steps, held against plain lists, one a shard.
func FuzzTold(f *testing.F) {
	f.Add([]byte{0, 1, 2, 2, 0, 5, 2, 2, 6, 2, 1, 7, 0, 0, 0, 3, 0, 0, 2, 2, 9})
	f.Add([]byte{1, 1, 2, 2, 0, 5, 2, 2, 6, 2, 1, 7, 60, 0, 0})
	f.Add([]byte{1, 16, 4, 4, 255, 255, 4, 255, 255, 1, 255, 0, 40, 9, 9, 3, 255, 1})
	f.Add([]byte{2, 17, 5})
	f.Fuzz(func(t *testing.T, data []byte) {
		if len(data) < 3 {
			return
		}
		d, shards := api.MapDef{Kind: api.MapKind(int8(data[0])), Cap: int(int8(data[1]))}, int(int8(data[2]))
		m, e := cmap.New(d, shards)
		if !right(d) || shards < 1 || shards > 4 {
			if m != nil || e != api.ErrArg {
				t.Fatalf("New(%v, %d): %v, %v", d, shards, m, e)
			}
			return
		}
		if m == nil || e != api.OK {
			t.Fatalf("New(%v, %d): %v, %v", d, shards, m, e)
		}
		w := listsOf(d, shards)
		for at := 3; at+3 <= len(data); at += 3 {
			is := []api.Item{{Op: api.MapOp(int8(data[at])), Key: wide(data[at+1]), Val: wide(data[at+2])}}
			if is[0].Op >= 40 {
				is = nil
				for _, c := range data[at:min(at+20, len(data))] {
					is = append(is, api.Item{Map: int(c), Op: api.MapOp(c % 6), Key: wide(c), Val: wide(c + 7)})
				}
			}
			if got, want := play(m, is), tell(w, is); !same(got, want) {
				t.Fatalf("%v, %d shards, step at %d, %v: %v, want %v", d, shards, at, is, got, want)
			}
		}
	})
}

// wide is a number out of a byte: small ones as they are, others spread over all 64 bits.
func wide(c byte) uint64 {
	if c < 64 {
		return uint64(c)
	}
	return binary.BigEndian.Uint64([]byte{c, 0, 0, 0, 0, 0, 0, c}) - 64
}
