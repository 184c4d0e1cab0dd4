package cmap_test

import (
	"fmt"
	"math"
	"slices"
	"testing"

	"tappet/api"
	"tappet/book"
	"tappet/cmap"
	"tappet/lru"
	"tappet/place"
)

// The chapter's section 'Types': both are Shards.
var (
	_ cmap.Shard = (*book.Book)(nil)
	_ cmap.Shard = (*lru.LRU)(nil)
)

// lawful are the operations, each once.
func lawful() []api.MapOp {
	return []api.MapOp{api.MapGet, api.MapHas, api.MapPut, api.MapDel, api.MapAdd}
}

// otherOps are numbers of no operation: just beside the ends, far off, and such that are operations modulo 5, 2^3, 2^8, 2^16 or 2^32.
func otherOps() []api.MapOp {
	return []api.MapOp{-1, -2, -3, -4, -5, -8, -256, -65536, math.MinInt32, -1 << 32, math.MinInt, math.MinInt + 2,
		5, 6, 7, 8, 10, 12, 255, 256, 258, 65538, math.MaxInt32, 1 << 32, 1<<32 + 2, math.MaxInt - 1, math.MaxInt}
}

// edges are keys and values at which something could go wrong.
func edges() []uint64 {
	return []uint64{0, 1, 2, 255, 256, 1<<31 - 1, 1 << 31, 1<<32 - 1, 1 << 32, 1<<32 + 1, 1<<63 - 1, 1 << 63, 1<<63 + 1, most - 1, most}
}

// numbers are kinds, caps and numbers of shards: those that there may be, those beside them, far ones, and such that are lawful modulo 2^8, 2^16 or 2^32.
func numbers() []int {
	ns := []int{math.MinInt, math.MinInt + 1, -1 << 32, -1<<32 + 1, math.MinInt32, -65535, -256, -255, -16, -4,
		255, 256, 257, 260, 65536, 65537, math.MaxInt32, 1 << 32, 1<<32 + 1, 1<<32 + 4, math.MaxInt - 1, math.MaxInt}
	for n := -2; n <= 20; n++ {
		ns = append(ns, n)
	}
	return ns
}

// right tells whether Make takes a shape.
func right(d api.MapDef) bool {
	return (d.Kind == 0 || d.Kind == 1) && d.Cap >= 1 && d.Cap <= 16
}

func plain(room int) api.MapDef {
	return api.MapDef{Kind: api.Plain, Cap: room}
}

func bounded(room int) api.MapDef {
	return api.MapDef{Kind: api.Bounded, Cap: room}
}

// both are the kinds, with one cap.
func both(room int) []api.MapDef {
	return []api.MapDef{plain(room), bounded(room)}
}

// keysIn are the least keys of a shard, rising.
func keysIn(shard, shards, many int) []uint64 {
	var keys []uint64
	for k := uint64(0); len(keys) < many; k++ {
		if place.Of(k, shards) == shard {
			keys = append(keys, k)
		}
	}
	return keys
}

// made is a new map into which these pairs were put, one behind the other.
func made(t *testing.T, d api.MapDef, shards int, ps ...api.Pair) *cmap.Map {
	t.Helper()
	m, e := cmap.New(d, shards)
	if m == nil || e != api.OK {
		t.Fatalf("New(%v, %d): %v, %v", d, shards, m, e)
	}
	for _, p := range ps {
		does(t, m, api.MapPut, p.Key, p.Val, api.Res{})
	}
	return m
}

// does fails if an operation isn't answered so.
func does(t *testing.T, m *cmap.Map, op api.MapOp, key, val uint64, w api.Res) {
	t.Helper()
	if r := m.Do(op, key, val); r != w {
		t.Errorf("Do(%d, %d, %d): %v, want %v", op, key, val, r, w)
	}
}

// want fails if what can be read of a map isn't of this shape, with these parts, one a shard.
func want(t *testing.T, when string, m *cmap.Map, d api.MapDef, parts ...[]api.Pair) {
	t.Helper()
	var walk []api.Pair
	for shard, ps := range parts {
		walk = append(walk, ps...)
		if got, e := m.Part(shard); e != api.OK || !slices.Equal(got, ps) {
			t.Errorf("%s: Part(%d) %v, %v, want %v", when, shard, got, e, ps)
		}
	}
	for _, shard := range []int{math.MinInt, -1, len(parts), math.MaxInt} {
		if got, e := m.Part(shard); e != api.ErrArg || len(got) != 0 {
			t.Errorf("%s: Part(%d) %v, %v", when, shard, got, e)
		}
	}
	if got := m.Walk(); !slices.Equal(got, walk) {
		t.Errorf("%s: Walk %v, want %v", when, got, walk)
	}
	if m.Len() != len(walk) || m.Def() != d {
		t.Errorf("%s: Len %d, Def %v, want %d, %v", when, m.Len(), m.Def(), len(walk), d)
	}
}

// TestExamples: the chapter's table.
func TestExamples(t *testing.T) {
	m := made(t, plain(1), 2)
	does(t, m, api.MapPut, 0, 5, api.Res{})
	does(t, m, api.MapPut, 2, 6, api.Res{E: api.ErrFull})
	does(t, m, api.MapPut, 1, 7, api.Res{})
	if got := m.Walk(); !slices.Equal(got, []api.Pair{pair(0, 5), pair(1, 7)}) {
		t.Errorf("Walk: %v", got)
	}
	if got, e := m.Part(1); e != api.OK || !slices.Equal(got, []api.Pair{pair(1, 7)}) {
		t.Errorf("Part(1): %v, %v", got, e)
	}
	if got, e := m.Part(2); e != api.ErrArg || len(got) != 0 {
		t.Errorf("Part(2): %v, %v", got, e)
	}
	if got := m.Len(); got != 2 {
		t.Errorf("Len: %d", got)
	}
	got := m.Batch(api.Item{Op: api.MapGet, Key: 0}, api.Item{Op: api.MapDel, Key: 0}, api.Item{Op: api.MapPut, Key: 2, Val: 9})
	if !slices.Equal(got, []api.Res{{Found: true, Val: 5}, {Found: true, Val: 5}, {}}) {
		t.Errorf("Batch: %v", got)
	}
	want(t, "behind Batch", m, plain(1), []api.Pair{pair(2, 9)}, []api.Pair{pair(1, 7)})
	m = made(t, bounded(1), 2)
	does(t, m, api.MapPut, 0, 5, api.Res{})
	does(t, m, api.MapPut, 2, 6, api.Res{Out: true, OutKey: 0, OutVal: 5})
	does(t, m, api.MapPut, 1, 7, api.Res{})
	want(t, "bounded", m, bounded(1), []api.Pair{pair(2, 6)}, []api.Pair{pair(1, 7)})
	for _, c := range []struct {
		d      api.MapDef
		shards int
	}{{api.MapDef{Kind: 2, Cap: 1}, 1}, {plain(0), 1}, {plain(1), 0}, {plain(1), 5}} {
		if m, e := cmap.New(c.d, c.shards); m != nil || e != api.ErrArg {
			t.Errorf("New(%v, %d): %v, %v", c.d, c.shards, m, e)
		}
	}
}

// TestMake: P15.1; just the kinds 0 and 1 with the caps 1 to 16, and where it refuses, a Shard that is nil.
func TestMake(t *testing.T) {
	for _, kind := range numbers() {
		for _, room := range numbers() {
			d := api.MapDef{Kind: api.MapKind(kind), Cap: room}
			s, e := cmap.Make(d)
			if !right(d) {
				if s != nil || e != api.ErrArg {
					t.Errorf("Make(%v): %v, %v", d, s, e)
				}
				continue
			}
			if s == nil || e != api.OK {
				t.Fatalf("Make(%v): %v, %v", d, s, e)
			}
			if s.Len() != 0 || s.Cap() != room || len(s.Pairs()) != 0 {
				t.Errorf("Make(%v): Len %d, Cap %d, Pairs %v", d, s.Len(), s.Cap(), s.Pairs())
			}
			if other, _ := cmap.Make(d); other == s {
				t.Errorf("Make(%v) answers one shard twice", d)
			}
		}
	}
}

// TestMakeWhat: P15.1; a book for Plain, an LRU for Bounded, neither of them nil, each doing as its layer says.
func TestMakeWhat(t *testing.T) {
	for room := 1; room <= 16; room++ {
		s, _ := cmap.Make(plain(room))
		b, ok := s.(*book.Book)
		if !ok || b == nil {
			t.Fatalf("Make of a plain one: %T", s)
		}
		s, _ = cmap.Make(bounded(room))
		l, ok := s.(*lru.LRU)
		if !ok || l == nil || l.Book == nil {
			t.Fatalf("Make of a bounded one: %T", s)
		}
		for k := range uint64(room) {
			b.Do(api.MapPut, k, k+1)
			l.Do(api.MapPut, k, k+1)
		}
		if r := b.Do(api.MapPut, 99, 1); r != (api.Res{E: api.ErrFull}) {
			t.Errorf("Put into a full book of %d: %v", room, r)
		}
		if r := l.Do(api.MapPut, 99, 1); r != (api.Res{Out: true, OutKey: 0, OutVal: 1}) {
			t.Errorf("Put into a full LRU of %d: %v", room, r)
		}
		if b.Len() != room || l.Len() != room || len(l.Order()) != room {
			t.Errorf("full ones of %d: %d, %d, %v", room, b.Len(), l.Len(), l.Order())
		}
	}
}

// TestMadeApart: P15.1, P15.5; what is done to one made shard is seen in no other.
func TestMadeApart(t *testing.T) {
	for _, d := range both(2) {
		a, _ := cmap.Make(d)
		b, _ := cmap.Make(d)
		a.Do(api.MapPut, 1, 10)
		if b.Len() != 0 || len(b.Pairs()) != 0 {
			t.Errorf("%v: the other one holds %v", d, b.Pairs())
		}
		b.Do(api.MapPut, 2, 20)
		c, _ := cmap.Make(d)
		if !slices.Equal(a.Pairs(), []api.Pair{pair(1, 10)}) || !slices.Equal(b.Pairs(), []api.Pair{pair(2, 20)}) || c.Len() != 0 {
			t.Errorf("%v: %v, %v, %v", d, a.Pairs(), b.Pairs(), c.Pairs())
		}
	}
}

// TestNew: P15.2; just what Make takes, with 1 to 4 shards, and where it refuses, nil.
func TestNew(t *testing.T) {
	for _, kind := range numbers() {
		for _, room := range numbers() {
			for _, shards := range numbers() {
				d := api.MapDef{Kind: api.MapKind(kind), Cap: room}
				m, e := cmap.New(d, shards)
				if !right(d) || shards < 1 || shards > 4 {
					if m != nil || e != api.ErrArg {
						t.Errorf("New(%v, %d): %v, %v", d, shards, m, e)
					}
					continue
				}
				if m == nil || e != api.OK {
					t.Fatalf("New(%v, %d): %v, %v", d, shards, m, e)
				}
				want(t, "a new one", m, d, make([][]api.Pair, shards)...)
			}
		}
	}
}

// TestNewHoldsSoMany: P15.2; each of the shards is one of its own, of the kind and the cap that were asked for.
func TestNewHoldsSoMany(t *testing.T) {
	for _, d := range defs() {
		for shards := 1; shards <= 4; shards++ {
			m := made(t, d, shards)
			var parts [][]api.Pair
			for shard := range shards {
				keys := keysIn(shard, shards, d.Cap+1)
				var ps []api.Pair
				for _, k := range keys[:d.Cap] {
					does(t, m, api.MapPut, k, k+7, api.Res{})
					ps = append(ps, pair(k, k+7))
				}
				w := api.Res{E: api.ErrFull}
				if d.Kind == api.Bounded {
					w = api.Res{Out: true, OutKey: keys[0], OutVal: keys[0] + 7}
					ps = append(ps[1:], pair(keys[d.Cap], 1))
				}
				does(t, m, api.MapPut, keys[d.Cap], 1, w)
				parts = append(parts, ps)
			}
			want(t, "full", m, d, parts...)
		}
	}
}

// tableRow is an operation on a key, the val always 5, and what it answers; is are the shard's pairs behind it.
type tableRow struct {
	op  api.MapOp
	key uint64
	res api.Res
	is  []api.Pair
}

// play does a row in each map that has just these pairs in the key's shard, while the other shards are empty, have room or are full.
func (c tableRow) play(t *testing.T, d api.MapDef, home, shards int, was []api.Pair) {
	t.Helper()
	for many := range d.Cap + 1 {
		m, parts := made(t, d, shards, was...), make([][]api.Pair, shards)
		for shard := range shards {
			if shard == home {
				continue
			}
			for _, k := range keysIn(shard, shards, many) {
				does(t, m, api.MapPut, k, k+100, api.Res{})
				parts[shard] = append(parts[shard], pair(k, k+100))
			}
		}
		parts[home] = sorted(was)
		want(t, "ahead of it", m, d, parts...)
		does(t, m, c.op, c.key, 5, c.res)
		parts[home] = c.is
		want(t, fmt.Sprintf("%v in shard %d of %d, others with %d", c, home, shards, many), m, d, parts...)
	}
}

// eachShard calls with each kind of map of cap 3, each number of shards and each of them, and five keys of that shard, rising.
func eachShard(call func(d api.MapDef, home, shards int, k []uint64)) {
	for _, d := range both(3) {
		for shards := 1; shards <= 4; shards++ {
			for home := range shards {
				call(d, home, shards, keysIn(home, shards, 5))
			}
		}
	}
}

// TestEmpty: P15.3; each operation where the key's shard is empty.
func TestEmpty(t *testing.T) {
	eachShard(func(d api.MapDef, home, shards int, k []uint64) {
		for _, c := range []tableRow{
			{api.MapGet, k[1], api.Res{}, nil},
			{api.MapHas, k[1], api.Res{}, nil},
			{api.MapPut, k[1], api.Res{}, []api.Pair{pair(k[1], 5)}},
			{api.MapDel, k[1], api.Res{}, nil},
			{api.MapAdd, k[1], api.Res{Val: 5}, []api.Pair{pair(k[1], 5)}},
		} {
			c.play(t, d, home, shards, nil)
		}
	})
}

// TestRoom: P15.3; each operation with a key that is there and one that isn't, where the key's shard has room.
func TestRoom(t *testing.T) {
	eachShard(func(d api.MapDef, home, shards int, k []uint64) {
		was := []api.Pair{pair(k[1], 11), pair(k[2], 22)}
		for _, c := range []tableRow{
			{api.MapGet, k[1], api.Res{Found: true, Val: 11}, was},
			{api.MapHas, k[1], api.Res{Found: true}, was},
			{api.MapPut, k[1], api.Res{Found: true, Val: 11}, []api.Pair{pair(k[1], 5), pair(k[2], 22)}},
			{api.MapDel, k[1], api.Res{Found: true, Val: 11}, []api.Pair{pair(k[2], 22)}},
			{api.MapAdd, k[1], api.Res{Found: true, Val: 16}, []api.Pair{pair(k[1], 16), pair(k[2], 22)}},
			{api.MapGet, k[0], api.Res{}, was},
			{api.MapHas, k[0], api.Res{}, was},
			{api.MapPut, k[0], api.Res{}, []api.Pair{pair(k[0], 5), pair(k[1], 11), pair(k[2], 22)}},
			{api.MapDel, k[0], api.Res{}, was},
			{api.MapAdd, k[0], api.Res{Val: 5}, []api.Pair{pair(k[0], 5), pair(k[1], 11), pair(k[2], 22)}},
			{api.MapPut, k[4], api.Res{}, []api.Pair{pair(k[1], 11), pair(k[2], 22), pair(k[4], 5)}},
		} {
			c.play(t, d, home, shards, was)
		}
	})
}

// TestFull: P15.3, P15.5; likewise where the key's shard is full: a plain map refuses a new key, a bounded one evicts the shard's key that was touched longest ago.
func TestFull(t *testing.T) {
	eachShard(func(d api.MapDef, home, shards int, k []uint64) {
		was := []api.Pair{pair(k[2], 22), pair(k[1], 11), pair(k[3], 33)}
		is := sorted(was)
		rows := []tableRow{
			{api.MapGet, k[1], api.Res{Found: true, Val: 11}, is},
			{api.MapHas, k[1], api.Res{Found: true}, is},
			{api.MapPut, k[1], api.Res{Found: true, Val: 11}, []api.Pair{pair(k[1], 5), pair(k[2], 22), pair(k[3], 33)}},
			{api.MapDel, k[1], api.Res{Found: true, Val: 11}, []api.Pair{pair(k[2], 22), pair(k[3], 33)}},
			{api.MapAdd, k[1], api.Res{Found: true, Val: 16}, []api.Pair{pair(k[1], 16), pair(k[2], 22), pair(k[3], 33)}},
			{api.MapGet, k[0], api.Res{}, is},
			{api.MapHas, k[0], api.Res{}, is},
			{api.MapDel, k[0], api.Res{}, is},
		}
		if d.Kind == api.Plain {
			rows = append(rows, tableRow{api.MapPut, k[0], api.Res{E: api.ErrFull}, is}, tableRow{api.MapAdd, k[4], api.Res{E: api.ErrFull}, is})
		} else {
			rows = append(rows,
				tableRow{api.MapPut, k[0], api.Res{Out: true, OutKey: k[2], OutVal: 22}, []api.Pair{pair(k[0], 5), pair(k[1], 11), pair(k[3], 33)}},
				tableRow{api.MapAdd, k[4], api.Res{Val: 5, Out: true, OutKey: k[2], OutVal: 22}, []api.Pair{pair(k[1], 11), pair(k[3], 33), pair(k[4], 5)}})
		}
		for _, c := range rows {
			c.play(t, d, home, shards, was)
		}
	})
}

// TestOtherOps: P15.3; ErrArg alone, also where shards are full: nothing changes.
func TestOtherOps(t *testing.T) {
	ps := []api.Pair{pair(0, 1), pair(3, 2), pair(1, 3), pair(4, 4), pair(2, 5), pair(7, 6), pair(5, 7)}
	for _, d := range both(2) {
		m := made(t, d, 4, ps...)
		for _, op := range otherOps() {
			for _, key := range []uint64{0, 1, 2, 3, 5, 6, 8, 9, 10, most} {
				for _, val := range []uint64{0, 1, most} {
					does(t, m, op, key, val, api.Res{E: api.ErrArg})
					if got := m.Batch(api.Item{Op: op, Key: key, Val: val}); !slices.Equal(got, []api.Res{{E: api.ErrArg}}) {
						t.Errorf("Batch of operation %d: %v", op, got)
					}
				}
			}
		}
		want(t, "behind others", m, d, ps[0:2], ps[2:4], ps[4:6], ps[6:])
	}
	for op := api.MapOp(-300); op <= 300; op++ {
		r := made(t, plain(1), 4).Do(op, 1, 1)
		if lawful := op >= 0 && op <= 4; lawful != (r.E == api.OK) || !lawful && r != (api.Res{E: api.ErrArg}) {
			t.Errorf("operation %d: %v", op, r)
		}
	}
}

// TestFullBesideRoom: P15.5; where one shard is full it alone refuses or evicts, and the others take keys as if it weren't there.
func TestFullBesideRoom(t *testing.T) {
	eachShard(func(d api.MapDef, home, shards int, k []uint64) {
		m, w := made(t, d, shards, pair(k[0], 1), pair(k[1], 2), pair(k[2], 3)), listsOf(d, shards)
		for i, key := range k[:3] {
			w.do(api.MapPut, key, uint64(i+1))
		}
		refused := api.Res{E: api.ErrFull}
		evicted := []api.Res{{Out: true, OutKey: k[0], OutVal: 1}, {Val: 9, Out: true, OutKey: k[1], OutVal: 2}}
		for i, op := range []api.MapOp{api.MapPut, api.MapAdd} {
			res := refused
			if d.Kind == api.Bounded {
				res = evicted[i]
			}
			does(t, m, op, k[3+i], 9, res)
			w.do(op, k[3+i], 9)
			agree(t, "behind one too many", m, w)
		}
		for shard := range shards {
			if shard == home {
				continue
			}
			for _, key := range keysIn(shard, shards, 3) {
				does(t, m, api.MapPut, key, 8, api.Res{})
				w.do(api.MapPut, key, 8)
				agree(t, "beside a full one", m, w)
			}
		}
		if m.Len() != 3*shards {
			t.Errorf("all full: Len %d, want %d", m.Len(), 3*shards)
		}
	})
}

// TestRoomBesideFull: P15.5; where all shards but one are full, that one takes keys by Put and by Add.
func TestRoomBesideFull(t *testing.T) {
	eachShard(func(d api.MapDef, home, shards int, k []uint64) {
		m, w := made(t, d, shards), listsOf(d, shards)
		for shard := range shards {
			for _, key := range keysIn(shard, shards, 3) {
				if shard != home {
					does(t, m, api.MapPut, key, 8, w.do(api.MapPut, key, 8))
				}
			}
		}
		agree(t, "all but one full", m, w)
		does(t, m, api.MapAdd, k[0], 4, api.Res{Val: 4})
		does(t, m, api.MapPut, k[1], 5, api.Res{})
		does(t, m, api.MapPut, k[4], 6, api.Res{})
		w.do(api.MapAdd, k[0], 4)
		w.do(api.MapPut, k[1], 5)
		w.do(api.MapPut, k[4], 6)
		agree(t, "that one full too", m, w)
	})
}

// TestEvictedByItsOwn: P15.5; what is touched in another shard, ahead or behind, doesn't tell who goes.
func TestEvictedByItsOwn(t *testing.T) {
	d := bounded(2)
	m := made(t, d, 2, pair(0, 1), pair(1, 2), pair(2, 3), pair(4, 4))
	does(t, m, api.MapGet, 1, 0, api.Res{Found: true, Val: 2})
	does(t, m, api.MapPut, 3, 5, api.Res{Out: true, OutKey: 0, OutVal: 1})
	does(t, m, api.MapPut, 5, 6, api.Res{Out: true, OutKey: 4, OutVal: 4})
	want(t, "one of each", m, d, []api.Pair{pair(2, 3), pair(3, 5)}, []api.Pair{pair(1, 2), pair(5, 6)})
	does(t, m, api.MapGet, 2, 0, api.Res{Found: true, Val: 3})
	does(t, m, api.MapHas, 1, 0, api.Res{Found: true})
	does(t, m, api.MapGet, 0, 0, api.Res{})
	does(t, m, api.MapAdd, 8, 7, api.Res{Val: 7, Out: true, OutKey: 1, OutVal: 2})
	does(t, m, api.MapAdd, 0, 8, api.Res{Val: 8, Out: true, OutKey: 3, OutVal: 5})
	want(t, "another of each", m, d, []api.Pair{pair(0, 8), pair(2, 3)}, []api.Pair{pair(5, 6), pair(8, 7)})
	does(t, m, api.MapDel, 0, 0, api.Res{Found: true, Val: 8})
	does(t, m, api.MapPut, 9, 9, api.Res{Out: true, OutKey: 5, OutVal: 6})
	does(t, m, api.MapPut, 6, 9, api.Res{})
	want(t, "room in one", m, d, []api.Pair{pair(2, 3), pair(6, 9)}, []api.Pair{pair(8, 7), pair(9, 9)})
}

// TestEnds: keys and values of 0 and of the greatest number, and others near the powers of two, each with each operation, refused and evicted.
func TestEnds(t *testing.T) {
	for _, d := range both(1) {
		for shards := 1; shards <= 4; shards++ {
			for _, key := range edges() {
				for _, val := range edges() {
					ends(t, d, shards, key, val)
				}
			}
		}
	}
}

// ends is TestEnds with one key and one value.
func ends(t *testing.T, d api.MapDef, shards int, key, val uint64) {
	t.Helper()
	m, home := made(t, d, shards), place.Of(key, shards)
	parts := make([][]api.Pair, shards)
	parts[home] = []api.Pair{pair(key, val)}
	for _, c := range []struct {
		op  api.MapOp
		res api.Res
	}{
		{api.MapHas, api.Res{}}, {api.MapGet, api.Res{}}, {api.MapDel, api.Res{}},
		{api.MapAdd, api.Res{Val: val}}, {api.MapHas, api.Res{Found: true}}, {api.MapGet, api.Res{Found: true, Val: val}},
		{api.MapAdd, api.Res{Found: true, Val: 2 * val}}, {api.MapPut, api.Res{Found: true, Val: 2 * val}},
		{api.MapPut, api.Res{Found: true, Val: val}}, {api.MapDel, api.Res{Found: true, Val: val}}, {api.MapDel, api.Res{}},
		{api.MapPut, api.Res{}}, {api.MapGet, api.Res{Found: true, Val: val}},
	} {
		does(t, m, c.op, key, val, c.res)
	}
	want(t, "with one key", m, d, parts...)
	other := keysIn(home, shards, 2)[0]
	if other == key {
		other = keysIn(home, shards, 2)[1]
	}
	there, back := api.Res{E: api.ErrFull}, api.Res{Found: true, Val: 2 * val}
	if d.Kind == api.Bounded {
		there, back = api.Res{Out: true, OutKey: key, OutVal: val}, api.Res{Val: val, Out: true, OutKey: other, OutVal: val}
	}
	does(t, m, api.MapPut, other, val, there)
	does(t, m, api.MapAdd, key, val, back)
	parts[home][0].Val = back.Val
	want(t, "behind another", m, d, parts...)
}

// TestBatch: P15.3; with no item, with one key often, with any Map, with operations that there aren't, over shards, past what there is room for.
func TestBatch(t *testing.T) {
	item := func(op api.MapOp, key, val uint64) api.Item { return api.Item{Op: op, Key: key, Val: val} }
	for _, c := range []struct {
		name  string
		d     api.MapDef
		is    []api.Item
		rs    []api.Res
		parts [2][]api.Pair
	}{
		{"nil", plain(2), nil, nil, [2][]api.Pair{{pair(0, 10)}, {pair(1, 11)}}},
		{"the empty list", bounded(2), []api.Item{}, nil, [2][]api.Pair{{pair(0, 10)}, {pair(1, 11)}}},
		{"the zero item", plain(2), []api.Item{{}}, []api.Res{{Found: true, Val: 10}}, [2][]api.Pair{{pair(0, 10)}, {pair(1, 11)}}},
		{"one key often", plain(2), []api.Item{item(2, 4, 1), item(4, 4, 2), item(0, 4, 9), item(1, 4, 9), item(3, 4, 9), item(0, 4, 9), item(4, 4, 6)},
			[]api.Res{{}, {Found: true, Val: 3}, {Found: true, Val: 3}, {Found: true}, {Found: true, Val: 3}, {}, {Val: 6}},
			[2][]api.Pair{{pair(0, 10)}, {pair(1, 11), pair(4, 6)}}},
		{"one item often", bounded(2), []api.Item{item(4, 0, 1), item(4, 0, 1), item(4, 0, 1)},
			[]api.Res{{Found: true, Val: 11}, {Found: true, Val: 12}, {Found: true, Val: 13}}, [2][]api.Pair{{pair(0, 13)}, {pair(1, 11)}}},
		{"any Map", plain(2), []api.Item{{Map: 1, Op: 2, Key: 2, Val: 3}, {Map: -1, Op: 4, Key: 2, Val: 4}, {Map: math.MaxInt, Op: 0, Key: 2}, {Map: math.MinInt, Op: 0, Key: 1}},
			[]api.Res{{}, {Found: true, Val: 7}, {Found: true, Val: 7}, {Found: true, Val: 11}}, [2][]api.Pair{{pair(0, 10), pair(2, 7)}, {pair(1, 11)}}},
		{"no operations", bounded(2), []api.Item{item(5, 0, 1), item(-1, 7, 1), item(math.MaxInt, 1, 1), item(math.MinInt, 1, 1)},
			[]api.Res{{E: 2}, {E: 2}, {E: 2}, {E: 2}}, [2][]api.Pair{{pair(0, 10)}, {pair(1, 11)}}},
		{"no operation among others", plain(2), []api.Item{item(2, 0, 1), item(5, 0, 2), item(3, 1, 3), item(-1, 1, 4), item(1, 1, 5)},
			[]api.Res{{Found: true, Val: 10}, {E: 2}, {Found: true, Val: 11}, {E: 2}, {}}, [2][]api.Pair{{pair(0, 1)}, nil}},
		{"past the room of a plain one", plain(2), []api.Item{item(2, 2, 1), item(2, 3, 1), item(2, 4, 1), item(4, 3, 1), item(3, 0, 0), item(2, 3, 5)},
			[]api.Res{{}, {E: 40}, {}, {E: 40}, {Found: true, Val: 10}, {}}, [2][]api.Pair{{pair(2, 1), pair(3, 5)}, {pair(1, 11), pair(4, 1)}}},
		{"past the room of a bounded one", bounded(2), []api.Item{item(2, 2, 1), item(0, 0, 0), item(2, 3, 2), item(2, 4, 3), item(4, 6, 4), item(2, 5, 5)},
			[]api.Res{{}, {Found: true, Val: 10}, {Out: true, OutKey: 2, OutVal: 1}, {}, {Val: 4, Out: true, OutKey: 0, OutVal: 10}, {Out: true, OutKey: 1, OutVal: 11}},
			[2][]api.Pair{{pair(3, 2), pair(6, 4)}, {pair(4, 3), pair(5, 5)}}},
	} {
		m := made(t, c.d, 2, pair(0, 10), pair(1, 11))
		if got := m.Batch(c.is...); !slices.Equal(got, c.rs) {
			t.Errorf("%s: %v, want %v", c.name, got, c.rs)
		}
		want(t, c.name, m, c.d, c.parts[0], c.parts[1])
	}
	m := made(t, plain(1), 1)
	if got := m.Batch(); len(got) != 0 {
		t.Errorf("Batch(): %v", got)
	}
	want(t, "Batch()", m, plain(1), nil)
}

// TestBatchIsDos: P15.3; one by one, as a list, and Do by hand are one.
func TestBatchIsDos(t *testing.T) {
	is := []api.Item{{Op: 2, Key: 0, Val: 1}, {Op: 4, Key: 2, Val: 2}, {Op: 2, Key: 3, Val: 3}, {Op: 0, Key: 0}, {Op: 9, Key: 1}, {Op: 4, Key: 5, Val: 4}}
	for _, d := range both(2) {
		a, b, c := made(t, d, 3), made(t, d, 3), made(t, d, 3)
		one, list, hand := a.Batch(is[0], is[1], is[2], is[3], is[4], is[5]), b.Batch(is...), []api.Res{}
		for _, i := range is {
			hand = append(hand, c.Do(i.Op, i.Key, i.Val))
		}
		if !slices.Equal(one, hand) || !slices.Equal(list, hand) {
			t.Errorf("%v: %v and %v, want %v", d, one, list, hand)
		}
		if !slices.Equal(a.Walk(), c.Walk()) || !slices.Equal(b.Walk(), c.Walk()) {
			t.Errorf("%v: %v and %v, want %v", d, a.Walk(), b.Walk(), c.Walk())
		}
	}
}

// TestBatchOfMany: a list far longer than any map.
func TestBatchOfMany(t *testing.T) {
	for _, d := range both(16) {
		m, w := made(t, d, 4), listsOf(d, 4)
		is := make([]api.Item, 100000)
		for i := range is {
			is[i] = api.Item{Map: i, Op: lawful()[i%5], Key: uint64(i % 173), Val: uint64(i)}
		}
		rs := m.Batch(is...)
		if len(rs) != len(is) {
			t.Fatalf("%v: %d answers", d, len(rs))
		}
		for i, it := range is {
			if r := w.do(it.Op, it.Key, it.Val); rs[i] != r {
				t.Fatalf("%v, item %d: %v, want %v", d, i, rs[i], r)
			}
		}
		agree(t, "behind many", m, w)
	}
}

// TestParts: P15.3, P15.4; keys 10 down to 0 in 1, 2, 3 and 4 shards, with the parts written out; they rise by key, and Walk is one behind the other.
func TestParts(t *testing.T) {
	for _, c := range [][][]uint64{
		{{0, 1, 2, 3, 4, 5, 6, 7, 8, 9, 10}},
		{{0, 2, 3, 6, 7, 10}, {1, 4, 5, 8, 9}},
		{{0, 1, 3}, {10}, {2, 4, 5, 6, 7, 8, 9}},
		{{0, 3, 6}, {1, 4, 9}, {2, 7, 10}, {5, 8}},
	} {
		for _, d := range both(16) {
			m, parts := made(t, d, len(c)), make([][]api.Pair, len(c))
			for k := uint64(10); k <= 10; k-- {
				does(t, m, api.MapPut, k, 100-k, api.Res{})
			}
			for shard, keys := range c {
				for _, k := range keys {
					parts[shard] = append(parts[shard], pair(k, 100-k))
				}
			}
			want(t, "eleven keys", m, d, parts...)
		}
	}
}

// TestPartOfNone: P15.4; ErrArg and nothing else, whatever the map holds.
func TestPartOfNone(t *testing.T) {
	for _, d := range both(2) {
		for shards := 1; shards <= 4; shards++ {
			empty, held := made(t, d, shards), made(t, d, shards)
			for shard := range shards {
				does(t, held, api.MapPut, keysIn(shard, shards, 1)[0], 1, api.Res{})
			}
			for _, n := range numbers() {
				if n >= 0 && n < shards {
					continue
				}
				for _, m := range []*cmap.Map{empty, held} {
					if got, e := m.Part(n); len(got) != 0 || e != api.ErrArg {
						t.Errorf("%d shards: Part(%d) %v, %v", shards, n, got, e)
					}
				}
			}
		}
	}
}

// TestWalk: P15.4; of an empty map, of one whose first, middle or last shard is empty, of one with a single key; in 3 shards, where key 10 lies ahead of key 2.
func TestWalk(t *testing.T) {
	for _, c := range []struct {
		puts  []uint64
		parts [3][]uint64
	}{
		{nil, [3][]uint64{}},
		{[]uint64{5, 10, 2}, [3][]uint64{nil, {10}, {2, 5}}},
		{[]uint64{5, 3, 0}, [3][]uint64{{0, 3}, nil, {5}}},
		{[]uint64{10, 3, 1}, [3][]uint64{{1, 3}, {10}, nil}},
		{[]uint64{3}, [3][]uint64{{3}, nil, nil}},
		{[]uint64{10}, [3][]uint64{nil, {10}, nil}},
		{[]uint64{9}, [3][]uint64{nil, nil, {9}}},
		{[]uint64{9, 10, 1, 2, 3, 0, 4}, [3][]uint64{{0, 1, 3}, {10}, {2, 4, 9}}},
	} {
		for _, d := range both(3) {
			m, parts := made(t, d, 3), make([][]api.Pair, 3)
			for _, k := range c.puts {
				does(t, m, api.MapPut, k, k*k, api.Res{})
			}
			for shard, keys := range c.parts {
				for _, k := range keys {
					parts[shard] = append(parts[shard], pair(k, k*k))
				}
			}
			want(t, fmt.Sprint("behind Put of ", c.puts), m, d, parts...)
		}
	}
}

// TestLen: P15.4; behind each operation that goes in, goes out, is refused or evicts.
func TestLen(t *testing.T) {
	for _, d := range both(2) {
		m := made(t, d, 2)
		for _, c := range []struct {
			op   api.MapOp
			key  uint64
			size int
		}{
			{api.MapGet, 0, 0}, {api.MapDel, 0, 0}, {api.MapHas, 0, 0}, {5, 0, 0},
			{api.MapPut, 0, 1}, {api.MapPut, 0, 1}, {api.MapAdd, 0, 1}, {api.MapAdd, 2, 2}, {api.MapAdd, 2, 2},
			{api.MapPut, 3, 2}, {api.MapAdd, 6, 2}, {api.MapPut, 1, 3}, {api.MapAdd, 4, 4}, {api.MapPut, 5, 4}, {api.MapAdd, 8, 4},
			{api.MapGet, 3, 4}, {api.MapHas, 3, 4}, {-1, 3, 4}, {api.MapDel, 10, 4}, {api.MapDel, 9, 4},
		} {
			m.Do(c.op, c.key, 0)
			if m.Len() != c.size || len(m.Walk()) != c.size {
				t.Errorf("%v behind %v: Len %d, want %d", d, c, m.Len(), c.size)
			}
		}
		for i, p := range m.Walk() {
			m.Do(api.MapDel, p.Key, 0)
			m.Do(api.MapDel, p.Key, 0)
			if m.Len() != 3-i {
				t.Errorf("%v behind Del of %v: Len %d, want %d", d, p, m.Len(), 3-i)
			}
		}
		want(t, "emptied", m, d, nil, nil)
	}
}

// TestDef: P15.4; what New was given, whatever was done since.
func TestDef(t *testing.T) {
	for _, d := range defs() {
		for shards := 1; shards <= 4; shards++ {
			m := made(t, d, shards)
			if m.Def() != d {
				t.Errorf("Def of a new one: %v, want %v", m.Def(), d)
			}
			for k := range uint64(100) {
				m.Batch(api.Item{Op: api.MapPut, Key: k, Val: 1}, api.Item{Op: 7, Key: k})
			}
			if got := m.Def(); got != d {
				t.Errorf("Def of a full one: %v, want %v", got, d)
			}
		}
	}
}

// scribble writes over a list up to the end of its room, then over what an append makes of it.
func scribble[T any](l []T, with T) {
	spare := l[:cap(l)]
	for i := range spare {
		spare[i] = with
	}
	for range 40 {
		l = append(l, with)
	}
	clear(l)
}

// TestAnswersAreNew: P15.5; lists that Walk, Part and Batch answered may be written to and appended to, and neither the map nor another answer changes.
func TestAnswersAreNew(t *testing.T) {
	for _, d := range defs() {
		for shards := 1; shards <= 4; shards++ {
			for _, many := range []int{0, 1, 2, 3, d.Cap, 2 * d.Cap, 8 * d.Cap} {
				m, w := made(t, d, shards), listsOf(d, shards)
				var is []api.Item
				for k := range uint64(many) {
					is = append(is, api.Item{Op: api.MapPut, Key: k, Val: k + 1})
					w.do(api.MapPut, k, k+1)
				}
				rs := m.Batch(is...)
				kept, second := slices.Clone(rs), m.Walk()
				scribble(m.Walk(), pair(77, 78))
				agree(t, "behind writing to Walk's", m, w)
				for shard := range shards {
					ps, _ := m.Part(shard)
					other, _ := m.Part(shard)
					scribble(ps, pair(79, 80))
					agree(t, "behind writing to Part's", m, w)
					if !slices.Equal(other, w.part(shard)) {
						t.Fatalf("%v: two answers of Part share memory: %v, want %v", d, other, w.part(shard))
					}
				}
				if !slices.Equal(second, w.walk()) || !slices.Equal(rs, kept) {
					t.Fatalf("%v: two answers share memory: %v, %v", d, second, rs)
				}
				scribble(rs, api.Res{E: 81})
				agree(t, "behind writing to Batch's", m, w)
				does(t, m, api.MapPut, 500, 5, w.do(api.MapPut, 500, 5))
				agree(t, "in the end", m, w)
			}
		}
	}
}

// TestAnswersStay: P15.5; what Walk, Part and Batch answered stays as it was, whatever is done to the map, and whatever is answered, since.
func TestAnswersStay(t *testing.T) {
	for _, d := range both(3) {
		m := made(t, d, 2, pair(0, 1), pair(2, 2), pair(1, 3), pair(4, 4))
		walk, rs := m.Walk(), m.Batch(api.Item{Op: api.MapGet, Key: 2}, api.Item{Op: api.MapHas, Key: 4})
		first, _ := m.Part(0)
		last, _ := m.Part(1)
		for k := range uint64(40) {
			m.Batch(api.Item{Op: api.MapPut, Key: k, Val: 90}, api.Item{Op: api.MapDel, Key: k + 1}, api.Item{Op: api.MapAdd, Key: 39 - k, Val: 91})
			m.Walk()
			m.Part(int(k % 2))
		}
		if !slices.Equal(walk, []api.Pair{pair(0, 1), pair(2, 2), pair(1, 3), pair(4, 4)}) {
			t.Errorf("%v: Walk's list has become %v", d, walk)
		}
		if !slices.Equal(first, walk[:2]) || !slices.Equal(last, walk[2:]) {
			t.Errorf("%v: Part's lists have become %v, %v", d, first, last)
		}
		if !slices.Equal(rs, []api.Res{{Found: true, Val: 2}, {Found: true}}) {
			t.Errorf("%v: Batch's list has become %v", d, rs)
		}
	}
}

// TestBatchKeepsNothing: the items that were handed in stay as they were, their spare room too, and may be written to.
func TestBatchKeepsNothing(t *testing.T) {
	whole := []api.Item{{Map: 3, Op: 2, Key: 9, Val: 1}, {Op: 4, Key: 3, Val: 2}, {Map: -1, Op: 2, Key: 7, Val: 3}, {Op: 0, Key: 3, Val: 4}, {Op: 3, Key: 9, Val: 5}, {Op: 8, Key: 1, Val: 6}, {Op: 2, Key: 0, Val: 7}, {Op: 1, Key: 7, Val: 8}}
	kept := slices.Clone(whole)
	for _, d := range append(both(1), both(16)...) {
		for many := range len(whole) + 1 {
			m, w := made(t, d, 3), listsOf(d, 3)
			rs := m.Batch(whole[:many]...)
			var told []api.Res
			for _, i := range kept[:many] {
				told = append(told, w.do(i.Op, i.Key, i.Val))
			}
			if !slices.Equal(whole, kept) {
				t.Fatalf("%v: the list and its spare room: %v, want %v", d, whole, kept)
			}
			for i := range whole {
				whole[i] = api.Item{Map: 5, Op: 2, Key: most, Val: most}
			}
			agree(t, "behind writing to the list", m, w)
			if !slices.Equal(rs, told) {
				t.Errorf("%v, %d items: %v, want %v", d, many, rs, told)
			}
			copy(whole, kept)
		}
	}
}

// TestApart: P15.5; what is done to one map is seen in no other, of those made ahead of it and behind it, with one shape or two.
func TestApart(t *testing.T) {
	for _, d := range both(2) {
		a, b, other := made(t, d, 2, pair(0, 1), pair(1, 2)), made(t, d, 2, pair(0, 1), pair(1, 2)), made(t, bounded(1), 2)
		a.Batch(api.Item{Op: api.MapPut, Key: 2, Val: 3}, api.Item{Op: api.MapDel, Key: 1}, api.Item{Op: api.MapAdd, Key: 0, Val: 4})
		want(t, "b behind what was done to a", b, d, []api.Pair{pair(0, 1)}, []api.Pair{pair(1, 2)})
		want(t, "the other one", other, bounded(1), nil, nil)
		does(t, b, api.MapPut, 4, 5, api.Res{})
		does(t, other, api.MapPut, 4, 6, api.Res{})
		want(t, "a behind what was done to b", a, d, []api.Pair{pair(0, 5), pair(2, 3)}, nil)
		want(t, "b", b, d, []api.Pair{pair(0, 1)}, []api.Pair{pair(1, 2), pair(4, 5)})
		want(t, "a new one", made(t, d, 2), d, nil, nil)
	}
}
