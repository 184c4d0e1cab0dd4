package lru_test

import (
	"cmp"
	"encoding/binary"
	"math"
	"math/rand"
	"slices"
	"testing"

	"tappet/api"
	"tappet/book"
	"tappet/lru"
)

const most = uint64(math.MaxUint64)

// lawful are the operations, each once.
func lawful() []api.MapOp {
	return []api.MapOp{api.MapGet, api.MapHas, api.MapPut, api.MapDel, api.MapAdd}
}

// otherOps are numbers of no operation: just beside the ends, far off, and such that are operations modulo 5, 2^3, 2^8, 2^16 or 2^32.
func otherOps() []api.MapOp {
	return []api.MapOp{-1, -2, -3, -4, -5, -8, -256, -65536, math.MinInt32, -1 << 32, math.MinInt, math.MinInt + 2,
		5, 6, 7, 8, 10, 12, 255, 256, 258, 65538, math.MaxInt32, 1 << 32, 1<<32 + 2, math.MaxInt - 1, math.MaxInt}
}

// edges are keys and values at which something could go wrong.
func edges() []uint64 {
	return []uint64{0, 1, 2, 255, 256, 1<<31 - 1, 1 << 31, 1<<32 - 1, 1 << 32, 1<<32 + 1, 1<<63 - 1, 1 << 63, 1<<63 + 1, most - 1, most}
}

// plain is what the chapter tells of an LRU: a list of pairs, the one touched last first, and how many there may be.
type plain struct {
	room int
	list []api.Pair
}

// find is where a key stands in the list, or -1.
func (m *plain) find(key uint64) int {
	return slices.IndexFunc(m.list, func(p api.Pair) bool { return p.Key == key })
}

// front takes the pair of a key out of the list, if it is there, and puts this one first.
func (m *plain) front(p api.Pair) {
	m.drop(p.Key)
	m.list = slices.Insert(m.list, 0, p)
}

// drop takes the pair of a key out of the list, if it is there.
func (m *plain) drop(key uint64) {
	if at := m.find(key); at >= 0 {
		m.list = slices.Delete(m.list, at, at+1)
	}
}

// do is P14.2 and P14.3.
func (m *plain) do(op api.MapOp, key, val uint64) api.Res {
	if op < 0 || op > 4 {
		return api.Res{E: 2}
	}
	at, was := m.find(key), uint64(0)
	r := api.Res{Found: at >= 0}
	if r.Found {
		was = m.list[at].Val
	}
	r.Val = was
	switch op {
	case api.MapGet:
		if r.Found {
			m.front(m.list[at])
		}
	case api.MapHas:
		r.Val = 0
	case api.MapDel:
		m.drop(key)
	case api.MapPut, api.MapAdd:
		if last := len(m.list) - 1; !r.Found && last+1 == m.room {
			r.Out, r.OutKey, r.OutVal = true, m.list[last].Key, m.list[last].Val
			m.list = m.list[:last]
		}
		if op == api.MapAdd {
			val += was
			r.Val = val
		}
		m.front(api.Pair{Key: key, Val: val})
	}
	return r
}

// fill and touch are P14.4.
func (m *plain) fill(ps []api.Pair) int {
	for _, p := range ps {
		m.do(api.MapPut, p.Key, p.Val)
	}
	return len(ps)
}

func (m *plain) touch(keys []uint64) int {
	n := 0
	for _, k := range keys {
		if m.do(api.MapGet, k, 0).Found {
			n++
		}
	}
	return n
}

// sorted are pairs with their keys rising.
func sorted(ps []api.Pair) []api.Pair {
	out := slices.Clone(ps)
	slices.SortFunc(out, func(p, q api.Pair) int { return cmp.Compare(p.Key, q.Key) })
	return out
}

// keysOf are the keys of pairs, in their order.
func keysOf(ps []api.Pair) []uint64 {
	var out []uint64
	for _, p := range ps {
		out = append(out, p.Key)
	}
	return out
}

// pair is one, in few letters.
func pair(key, val uint64) api.Pair {
	return api.Pair{Key: key, Val: val}
}

// row are pairs with so many keys, 10, 20 and so on, with values 11, 22 and so on.
func row(many int) []api.Pair {
	var ps []api.Pair
	for i := range many {
		n := uint64(i + 1)
		ps = append(ps, pair(10*n, 11*n))
	}
	return ps
}

// made is a new LRU in which these pairs stand so that the first was touched last.
func made(t *testing.T, room int, ps ...api.Pair) *lru.LRU {
	t.Helper()
	l, e := lru.New(room)
	if l == nil || e != api.OK {
		t.Fatalf("New(%d): %v, %v", room, l, e)
	}
	for _, p := range slices.Backward(ps) {
		if r := l.Do(api.MapPut, p.Key, p.Val); r != (api.Res{}) {
			t.Fatalf("Put of %v: %v", p, r)
		}
	}
	want(t, "made", l, room, ps...)
	return l
}

// want fails if an LRU's answers to Order, Pairs, Len and Cap aren't those of these pairs, the one touched last first; MapHas of them, of their neighbours and of 0 tells which are there, and touches none.
func want(t *testing.T, when string, l *lru.LRU, room int, ps ...api.Pair) {
	t.Helper()
	for _, p := range append(slices.Clone(ps), api.Pair{}) {
		for _, k := range []uint64{p.Key - 1, p.Key, p.Key + 1} {
			there := slices.Contains(keysOf(ps), k)
			if r := l.Do(api.MapHas, k, 77); r != (api.Res{Found: there}) {
				t.Errorf("%s: Has of %d: %v, want %t", when, k, r, there)
			}
		}
	}
	if got := l.Order(); !slices.Equal(got, keysOf(ps)) {
		t.Errorf("%s: Order %v, want %v", when, got, keysOf(ps))
	}
	if got := l.Pairs(); !slices.Equal(got, sorted(ps)) {
		t.Errorf("%s: Pairs %v, want %v", when, got, sorted(ps))
	}
	if l.Len() != len(ps) || l.Cap() != room {
		t.Errorf("%s: Len %d, Cap %d, want %d, %d", when, l.Len(), l.Cap(), len(ps), room)
	}
}

// does fails if an operation isn't answered so.
func does(t *testing.T, l *lru.LRU, op api.MapOp, key, val uint64, w api.Res) {
	t.Helper()
	if r := l.Do(op, key, val); r != w {
		t.Errorf("Do(%d, %d, %d): %v, want %v", op, key, val, r, w)
	}
}

// TestExamples: the chapter's table.
func TestExamples(t *testing.T) {
	l := made(t, 2)
	does(t, l, api.MapPut, 1, 10, api.Res{})
	does(t, l, api.MapPut, 2, 20, api.Res{})
	want(t, "two", l, 2, pair(2, 20), pair(1, 10))
	does(t, l, api.MapGet, 1, 0, api.Res{Found: true, Val: 10})
	want(t, "behind Get", l, 2, pair(1, 10), pair(2, 20))
	does(t, l, api.MapHas, 2, 0, api.Res{Found: true})
	does(t, l, api.MapPut, 3, 30, api.Res{Out: true, OutKey: 2, OutVal: 20})
	want(t, "behind Put", l, 2, pair(3, 30), pair(1, 10))
	does(t, l, api.MapAdd, 4, 5, api.Res{Val: 5, Out: true, OutKey: 1, OutVal: 10})
	want(t, "behind Add", l, 2, pair(4, 5), pair(3, 30))
	does(t, l, api.MapDel, 3, 0, api.Res{Found: true, Val: 30})
	does(t, l, api.MapPut, 9, 1, api.Res{})
	if n := l.Touch(9, 8, 4); n != 2 {
		t.Errorf("Touch(9, 8, 4): %d, want 2", n)
	}
	want(t, "behind Touch", l, 2, pair(4, 5), pair(9, 1))
	does(t, l, 7, 1, 1, api.Res{E: api.ErrArg})
	want(t, "behind no operation", l, 2, pair(4, 5), pair(9, 1))
	if l, e := lru.New(0); l != nil || e != api.ErrArg {
		t.Errorf("New(0): %v, %v", l, e)
	}
}

// TestNew: P14.1; just the caps 1 to 16, the edges and what is one of these modulo 2^8, 2^16 or 2^32 written out.
func TestNew(t *testing.T) {
	rooms := []int{math.MinInt, math.MinInt + 1, math.MinInt + 2, -1 << 32, -1<<32 + 4, math.MinInt32, -65535,
		65537, math.MaxInt32, 1 << 32, 1<<32 + 1, 1<<32 + 16, math.MaxInt - 1, math.MaxInt}
	for room := -300; room <= 300; room++ {
		rooms = append(rooms, room)
	}
	for _, room := range rooms {
		l, e := lru.New(room)
		if room < 1 || room > 16 {
			if l != nil || e != api.ErrArg {
				t.Errorf("New(%d): %v, %v", room, l, e)
			}
			continue
		}
		if l == nil || e != api.OK {
			t.Fatalf("New(%d): %v, %v", room, l, e)
		}
		want(t, "a new one", l, room)
		if other, _ := lru.New(room); other == l || other.Book == l.Book {
			t.Errorf("New(%d) answers one LRU twice, or one book", room)
		}
	}
	old := made(t, 16, row(16)...)
	want(t, "New behind a full one", made(t, 16), 16)
	want(t, "the full one", old, 16, row(16)...)
}

// tableRow is an operation in an LRU with these pairs, its answer, and the pairs behind it; pairs stand by recency.
type tableRow struct {
	room     int
	was      []api.Pair
	op       api.MapOp
	key, val uint64
	res      api.Res
	is       []api.Pair
}

// play does a row.
func (c tableRow) play(t *testing.T) {
	t.Helper()
	l := made(t, c.room, c.was...)
	does(t, l, c.op, c.key, c.val, c.res)
	want(t, "behind it", l, c.room, c.is...)
}

// TestEmptyOrRoom: P14.2, P14.3; each operation with a key that is there and one that isn't, where there is room.
func TestEmptyOrRoom(t *testing.T) {
	none, three := []api.Pair{}, []api.Pair{pair(4, 40), pair(6, 60), pair(2, 20)}
	for _, c := range []tableRow{
		{1, none, api.MapGet, 4, 5, api.Res{}, none},
		{1, none, api.MapHas, 4, 5, api.Res{}, none},
		{1, none, api.MapPut, 4, 5, api.Res{}, []api.Pair{pair(4, 5)}},
		{1, none, api.MapDel, 4, 5, api.Res{}, none},
		{1, none, api.MapAdd, 4, 5, api.Res{Val: 5}, []api.Pair{pair(4, 5)}},
		{4, three, api.MapGet, 6, 5, api.Res{Found: true, Val: 60}, []api.Pair{pair(6, 60), pair(4, 40), pair(2, 20)}},
		{4, three, api.MapHas, 6, 5, api.Res{Found: true}, three},
		{4, three, api.MapPut, 6, 5, api.Res{Found: true, Val: 60}, []api.Pair{pair(6, 5), pair(4, 40), pair(2, 20)}},
		{4, three, api.MapDel, 6, 5, api.Res{Found: true, Val: 60}, []api.Pair{pair(4, 40), pair(2, 20)}},
		{4, three, api.MapAdd, 6, 5, api.Res{Found: true, Val: 65}, []api.Pair{pair(6, 65), pair(4, 40), pair(2, 20)}},
		{4, three, api.MapGet, 3, 5, api.Res{}, three},
		{4, three, api.MapHas, 3, 5, api.Res{}, three},
		{4, three, api.MapPut, 3, 5, api.Res{}, []api.Pair{pair(3, 5), pair(4, 40), pair(6, 60), pair(2, 20)}},
		{4, three, api.MapDel, 3, 5, api.Res{}, three},
		{4, three, api.MapAdd, 3, 5, api.Res{Val: 5}, []api.Pair{pair(3, 5), pair(4, 40), pair(6, 60), pair(2, 20)}},
		{4, three, api.MapPut, 1, 5, api.Res{}, []api.Pair{pair(1, 5), pair(4, 40), pair(6, 60), pair(2, 20)}},
		{4, three, api.MapAdd, 7, 5, api.Res{Val: 5}, []api.Pair{pair(7, 5), pair(4, 40), pair(6, 60), pair(2, 20)}},
	} {
		c.play(t)
	}
}

// TestFull: P14.2, P14.3; likewise where there is none: a key that isn't there drives out the last of the order, and one that is drives out none.
func TestFull(t *testing.T) {
	three := []api.Pair{pair(4, 40), pair(6, 60), pair(2, 20)}
	for _, c := range []tableRow{
		{3, three, api.MapGet, 4, 5, api.Res{Found: true, Val: 40}, three},
		{3, three, api.MapGet, 6, 5, api.Res{Found: true, Val: 60}, []api.Pair{pair(6, 60), pair(4, 40), pair(2, 20)}},
		{3, three, api.MapGet, 2, 5, api.Res{Found: true, Val: 20}, []api.Pair{pair(2, 20), pair(4, 40), pair(6, 60)}},
		{3, three, api.MapHas, 2, 5, api.Res{Found: true}, three},
		{3, three, api.MapPut, 4, 5, api.Res{Found: true, Val: 40}, []api.Pair{pair(4, 5), pair(6, 60), pair(2, 20)}},
		{3, three, api.MapPut, 2, 5, api.Res{Found: true, Val: 20}, []api.Pair{pair(2, 5), pair(4, 40), pair(6, 60)}},
		{3, three, api.MapDel, 4, 5, api.Res{Found: true, Val: 40}, []api.Pair{pair(6, 60), pair(2, 20)}},
		{3, three, api.MapDel, 6, 5, api.Res{Found: true, Val: 60}, []api.Pair{pair(4, 40), pair(2, 20)}},
		{3, three, api.MapDel, 2, 5, api.Res{Found: true, Val: 20}, []api.Pair{pair(4, 40), pair(6, 60)}},
		{3, three, api.MapAdd, 4, 5, api.Res{Found: true, Val: 45}, []api.Pair{pair(4, 45), pair(6, 60), pair(2, 20)}},
		{3, three, api.MapAdd, 2, 5, api.Res{Found: true, Val: 25}, []api.Pair{pair(2, 25), pair(4, 40), pair(6, 60)}},
		{3, three, api.MapGet, 7, 5, api.Res{}, three},
		{3, three, api.MapHas, 7, 5, api.Res{}, three},
		{3, three, api.MapDel, 7, 5, api.Res{}, three},
		{3, three, api.MapPut, 7, 5, api.Res{Out: true, OutKey: 2, OutVal: 20}, []api.Pair{pair(7, 5), pair(4, 40), pair(6, 60)}},
		{3, three, api.MapAdd, 7, 5, api.Res{Val: 5, Out: true, OutKey: 2, OutVal: 20}, []api.Pair{pair(7, 5), pair(4, 40), pair(6, 60)}},
		{3, three, api.MapPut, 0, 0, api.Res{Out: true, OutKey: 2, OutVal: 20}, []api.Pair{pair(0, 0), pair(4, 40), pair(6, 60)}},
		{3, three, api.MapAdd, 5, 0, api.Res{Out: true, OutKey: 2, OutVal: 20}, []api.Pair{pair(5, 0), pair(4, 40), pair(6, 60)}},
	} {
		c.play(t)
	}
}

// TestOtherOps: P14.2; ErrArg alone, also where the LRU is full: nothing is evicted and nothing touched.
func TestOtherOps(t *testing.T) {
	for _, many := range []int{0, 1, 3} {
		l := made(t, 3, row(many)...)
		for _, op := range otherOps() {
			for _, key := range []uint64{0, 10, 11, 30, 31, most} {
				for _, val := range []uint64{0, 1, most} {
					does(t, l, op, key, val, api.Res{E: api.ErrArg})
				}
			}
		}
		want(t, "behind others", l, 3, row(many)...)
	}
}

// TestEverySmallOp: just 0 to 4 are operations, in a full LRU too.
func TestEverySmallOp(t *testing.T) {
	for op := api.MapOp(-300); op <= 300; op++ {
		for many := range 2 {
			r := made(t, 1, row(many)...).Do(op, 1, 1)
			if right := op >= 0 && op <= 4; right != (r.E == api.OK) || !right && r != (api.Res{E: api.ErrArg}) {
				t.Errorf("operation %d: %v", op, r)
			}
		}
	}
}

// TestEvicts: P14.2, P14.5; for each cap new keys by Put and by Add: none goes while there is room, then each drives out the one touched longest ago, round and round.
func TestEvicts(t *testing.T) {
	for room := 1; room <= 16; room++ {
		for _, op := range []api.MapOp{api.MapPut, api.MapAdd} {
			l, ps := made(t, room), row(50)
			for i, p := range ps {
				w := api.Res{}
				if op == api.MapAdd {
					w.Val = p.Val
				}
				if i >= room {
					w.Out, w.OutKey, w.OutVal = true, ps[i-room].Key, ps[i-room].Val
				}
				does(t, l, op, p.Key, p.Val, w)
				is := slices.Clone(ps[max(0, i+1-room) : i+1])
				slices.Reverse(is)
				want(t, "on the way", l, room, is...)
			}
		}
	}
}

// TestEvictsByTouchAlone: P14.5; whichever key stands last goes, be its number the least, the greatest or between: all orders of four keys.
func TestEvictsByTouchAlone(t *testing.T) {
	keys := []uint64{0, 5, 1 << 63, most}
	for _, o := range orders(4) {
		for _, in := range []uint64{1, 6, most - 1} {
			l := made(t, 4, pair(keys[0], 1), pair(keys[1], 2), pair(keys[2], 3), pair(keys[3], 4))
			for _, i := range slices.Backward(o) {
				does(t, l, api.MapGet, keys[i], 0, api.Res{Found: true, Val: uint64(i + 1)})
			}
			var is []api.Pair
			for _, i := range o {
				is = append(is, pair(keys[i], uint64(i+1)))
			}
			want(t, "touched", l, 4, is...)
			does(t, l, api.MapPut, in, 9, api.Res{Out: true, OutKey: is[3].Key, OutVal: is[3].Val})
			want(t, "behind Put", l, 4, pair(in, 9), is[0], is[1], is[2])
			does(t, l, api.MapAdd, 7, 3, api.Res{Val: 3, Out: true, OutKey: is[2].Key, OutVal: is[2].Val})
			want(t, "behind Add", l, 4, pair(7, 3), pair(in, 9), is[0], is[1])
		}
	}
}

// TestFullButThere: P14.2, P14.3, P14.5; Put and Add of each key that is there evict none, change its value alone, and bring it to the front.
func TestFullButThere(t *testing.T) {
	for room := 1; room <= 16; room++ {
		l, is := made(t, room, row(room)...), row(room)
		for _, p := range row(room) {
			does(t, l, api.MapPut, p.Key, 1000, api.Res{Found: true, Val: p.Val})
			at := slices.Index(is, p)
			is = slices.Insert(slices.Delete(is, at, at+1), 0, pair(p.Key, 1000))
			want(t, "behind Put", l, room, is...)
			does(t, l, api.MapAdd, p.Key, 5, api.Res{Found: true, Val: 1005})
			is[0].Val = 1005
			want(t, "behind Add", l, room, is...)
			last := is[room-1]
			does(t, l, api.MapAdd, last.Key, 1, api.Res{Found: true, Val: last.Val + 1})
			is = slices.Insert(is[:room-1], 0, pair(last.Key, last.Val+1))
			want(t, "behind Add to the last", l, room, is...)
			does(t, l, api.MapPut, last.Key, last.Val, api.Res{Found: true, Val: last.Val + 1})
			is[0].Val = last.Val
		}
	}
}

// TestOne: an LRU of one key.
func TestOne(t *testing.T) {
	l := made(t, 1)
	does(t, l, api.MapPut, 5, 50, api.Res{})
	does(t, l, api.MapPut, 5, 51, api.Res{Found: true, Val: 50})
	does(t, l, api.MapAdd, 5, 1, api.Res{Found: true, Val: 52})
	want(t, "one", l, 1, pair(5, 52))
	does(t, l, api.MapPut, 6, 60, api.Res{Out: true, OutKey: 5, OutVal: 52})
	does(t, l, api.MapAdd, 5, 7, api.Res{Val: 7, Out: true, OutKey: 6, OutVal: 60})
	want(t, "another", l, 1, pair(5, 7))
	does(t, l, api.MapGet, 6, 0, api.Res{})
	does(t, l, api.MapGet, 5, 0, api.Res{Found: true, Val: 7})
	does(t, l, api.MapDel, 6, 0, api.Res{})
	does(t, l, api.MapDel, 5, 0, api.Res{Found: true, Val: 7})
	want(t, "none", l, 1)
	does(t, l, api.MapAdd, 8, 8, api.Res{Val: 8})
	if n := l.Fill(pair(1, 1), pair(2, 2), pair(3, 3)); n != 3 {
		t.Errorf("Fill: %d, want 3", n)
	}
	if n := l.Touch(3, 2, 3); n != 2 {
		t.Errorf("Touch: %d, want 2", n)
	}
	want(t, "filled", l, 1, pair(3, 3))
}

// TestAddOver: P14.2; modulo 2^64, for a key that is there; one that comes behind an eviction begins at 0.
func TestAddOver(t *testing.T) {
	l := made(t, 2, pair(2, most), pair(1, 100))
	for _, c := range []struct{ add, is uint64 }{{1, 0}, {most, most}, {most, most - 1}, {2, 0}, {0, 0}, {1 << 63, 1 << 63}, {1 << 63, 0},
		{1<<32 - 1, 1<<32 - 1}, {1, 1 << 32}, {most - 1<<32, most}, {0, most}} {
		does(t, l, api.MapAdd, 2, c.add, api.Res{Found: true, Val: c.is})
		want(t, "behind Add", l, 2, pair(2, c.is), pair(1, 100))
	}
	does(t, l, api.MapAdd, 7, most, api.Res{Val: most, Out: true, OutKey: 1, OutVal: 100})
	does(t, l, api.MapAdd, 8, 1, api.Res{Val: 1, Out: true, OutKey: 2, OutVal: most})
	does(t, l, api.MapAdd, 7, most, api.Res{Found: true, Val: most - 1})
	want(t, "in the end", l, 2, pair(7, most-1), pair(8, 1))
}

// TestNoughtIsThere: a key whose value is 0 is there and takes room, key 0 too; where it is evicted, Out alone tells it.
func TestNoughtIsThere(t *testing.T) {
	for _, op := range []api.MapOp{api.MapPut, api.MapAdd} {
		l := made(t, 1)
		does(t, l, op, 0, 0, api.Res{})
		want(t, "with a 0", l, 1, pair(0, 0))
		does(t, l, op, 0, 0, api.Res{Found: true})
		does(t, l, op, 9, 0, api.Res{Out: true})
		want(t, "with another", l, 1, pair(9, 0))
		does(t, l, op, 0, 0, api.Res{Out: true, OutKey: 9})
		does(t, l, api.MapGet, 0, 0, api.Res{Found: true})
		does(t, l, api.MapDel, 0, 0, api.Res{Found: true})
		want(t, "without it", l, 1)
	}
	l := made(t, 2, pair(8, 1), pair(7, 1))
	does(t, l, api.MapAdd, 7, most, api.Res{Found: true})
	want(t, "come to 0", l, 2, pair(7, 0), pair(8, 1))
}

// TestEnds: keys and values of 0 and of the greatest number, and others near the powers of two, each with each operation and evicted by each way.
func TestEnds(t *testing.T) {
	for _, key := range edges() {
		for _, val := range edges() {
			l := made(t, 1)
			for _, c := range []struct {
				op  api.MapOp
				res api.Res
			}{
				{api.MapHas, api.Res{}}, {api.MapGet, api.Res{}}, {api.MapDel, api.Res{}},
				{api.MapAdd, api.Res{Val: val}}, {api.MapHas, api.Res{Found: true}}, {api.MapGet, api.Res{Found: true, Val: val}},
				{api.MapAdd, api.Res{Found: true, Val: 2 * val}}, {api.MapPut, api.Res{Found: true, Val: 2 * val}},
				{api.MapPut, api.Res{Found: true, Val: val}}, {api.MapDel, api.Res{Found: true, Val: val}}, {api.MapDel, api.Res{}},
				{api.MapPut, api.Res{}}, {api.MapGet, api.Res{Found: true, Val: val}},
			} {
				does(t, l, c.op, key, val, c.res)
			}
			want(t, "in the end", l, 1, pair(key, val))
			does(t, l, api.MapPut, key^1, val, api.Res{Out: true, OutKey: key, OutVal: val})
			does(t, l, api.MapAdd, key, val, api.Res{Val: val, Out: true, OutKey: key ^ 1, OutVal: val})
			want(t, "driven out and back", l, 1, pair(key, val))
		}
	}
	var ps []api.Pair
	for i, key := range edges() {
		ps = append(ps, pair(key, uint64(i)))
	}
	made(t, 15, ps...)
	slices.Reverse(ps)
	made(t, 15, ps...)
}

// TestDelThenPut: P14.3, P14.5; behind Del of each key of Order, the first, the last and those between, another goes in without an eviction, and one more drives out the last.
func TestDelThenPut(t *testing.T) {
	for room := 1; room <= 16; room++ {
		for gone := range room {
			for _, in := range []uint64{0, 15, 10*uint64(gone+1) - 1, 10 * uint64(gone+1), 10*uint64(gone+1) + 1, 999, most} {
				is := row(room)
				l := made(t, room, is...)
				does(t, l, api.MapDel, is[gone].Key, 5, api.Res{Found: true, Val: is[gone].Val})
				is = slices.Delete(is, gone, gone+1)
				want(t, "behind Del", l, room, is...)
				does(t, l, api.MapPut, in, 5, api.Res{})
				is = slices.Insert(is, 0, pair(in, 5))
				want(t, "behind Put", l, room, is...)
				does(t, l, api.MapPut, 500, 6, api.Res{Out: true, OutKey: is[room-1].Key, OutVal: is[room-1].Val})
				is = slices.Insert(is[:room-1], 0, pair(500, 6))
				want(t, "behind one more", l, room, is...)
			}
		}
	}
}

// TestGoneLeavesNothing: a key that was deleted or evicted begins anew when it comes back: at the front, without its value.
func TestGoneLeavesNothing(t *testing.T) {
	l := made(t, 3, row(3)...)
	does(t, l, api.MapDel, 20, 0, api.Res{Found: true, Val: 22})
	does(t, l, api.MapDel, 20, 0, api.Res{})
	does(t, l, api.MapGet, 20, 0, api.Res{})
	want(t, "behind Del", l, 3, pair(10, 11), pair(30, 33))
	does(t, l, api.MapAdd, 20, 3, api.Res{Val: 3})
	want(t, "back by Add", l, 3, pair(20, 3), pair(10, 11), pair(30, 33))
	does(t, l, api.MapPut, 40, 4, api.Res{Out: true, OutKey: 30, OutVal: 33})
	does(t, l, api.MapGet, 30, 0, api.Res{})
	does(t, l, api.MapHas, 30, 0, api.Res{})
	does(t, l, api.MapDel, 30, 0, api.Res{})
	does(t, l, api.MapAdd, 30, 1, api.Res{Val: 1, Out: true, OutKey: 10, OutVal: 11})
	want(t, "back behind an eviction", l, 3, pair(30, 1), pair(40, 4), pair(20, 3))
	for _, k := range []uint64{40, 20, 30} {
		l.Do(api.MapDel, k, 0)
	}
	want(t, "emptied", l, 3)
	does(t, l, api.MapPut, 20, 2, api.Res{})
	want(t, "one again", l, 3, pair(20, 2))
}

// TestWhatTouchesNot: P14.3; behind each call that touches nothing Order is as it was, and the key that stood last is the one that goes, though all of them named it.
func TestWhatTouchesNot(t *testing.T) {
	for room := 1; room <= 16; room++ {
		last := uint64(10 * room)
		for name, call := range map[string]func(*lru.LRU){
			"Has":                 func(l *lru.LRU) { l.Do(api.MapHas, last, 1) },
			"Has of none":         func(l *lru.LRU) { l.Do(api.MapHas, last+1, 1) },
			"Get of none":         func(l *lru.LRU) { l.Do(api.MapGet, last+1, 1) },
			"Del of none":         func(l *lru.LRU) { l.Do(api.MapDel, last+1, 1) },
			"no operation":        func(l *lru.LRU) { l.Do(5, last, 1) },
			"none below":          func(l *lru.LRU) { l.Do(-1, last, 1) },
			"Pairs":               func(l *lru.LRU) { l.Pairs() },
			"Order":               func(l *lru.LRU) { l.Order() },
			"Len and Cap":         func(l *lru.LRU) { _ = l.Len() + l.Cap() },
			"Fill with none":      func(l *lru.LRU) { l.Fill() },
			"Touch with none":     func(l *lru.LRU) { l.Touch() },
			"Touch of none there": func(l *lru.LRU) { l.Touch(last+1, last-1) },
			"the book's own Get":  func(l *lru.LRU) { l.Book.Do(api.MapGet, last, 1) },
		} {
			l, is := made(t, room, row(room)...), row(room)
			for range 3 {
				call(l)
				if got := l.Order(); !slices.Equal(got, keysOf(is)) {
					t.Errorf("cap %d, %s: Order %v, want %v", room, name, got, keysOf(is))
				}
			}
			want(t, name, l, room, is...)
			does(t, l, api.MapPut, 500, 5, api.Res{Out: true, OutKey: last, OutVal: is[room-1].Val})
			want(t, name+", then Put", l, room, slices.Insert(is[:room-1], 0, pair(500, 5))...)
		}
	}
}

// TestWhatTouches: P14.3; Get, Put and Add of each key of Order bring it to the front, and leave the others as they stood.
func TestWhatTouches(t *testing.T) {
	for many := 1; many <= 16; many++ {
		for _, room := range []int{many, 16} {
			for at, p := range row(many) {
				for _, op := range []api.MapOp{api.MapGet, api.MapPut, api.MapAdd} {
					l, is := made(t, room, row(many)...), row(many)
					does(t, l, op, p.Key, 0, api.Res{Found: true, Val: p.Val})
					if op == api.MapPut {
						p.Val = 0
					}
					want(t, "touched", l, room, slices.Insert(slices.Delete(is, at, at+1), 0, p)...)
					p.Val = row(many)[at].Val
				}
			}
		}
	}
}

// TestFill: P14.4; with no pair, with one key often, with keys that are there, past what there is room for: it is how many there were.
func TestFill(t *testing.T) {
	two := row(2)
	backwards := row(17)[1:]
	slices.Reverse(backwards)
	for _, c := range []struct {
		name string
		room int
		was  []api.Pair
		ps   []api.Pair
		n    int
		is   []api.Pair
	}{
		{"nil into an empty one", 2, nil, nil, 0, nil},
		{"the empty list into one with room", 3, two, []api.Pair{}, 0, two},
		{"nil into a full one", 2, two, nil, 0, two},
		{"one", 1, nil, []api.Pair{pair(7, 8)}, 1, []api.Pair{pair(7, 8)}},
		{"the zero pair", 1, nil, []api.Pair{{}}, 1, []api.Pair{{}}},
		{"rising keys", 3, nil, []api.Pair{pair(1, 3), pair(2, 2), pair(3, 1)}, 3, []api.Pair{pair(3, 1), pair(2, 2), pair(1, 3)}},
		{"one key often: the last counts", 2, nil, []api.Pair{pair(7, 8), pair(7, 9), pair(7, 1)}, 3, []api.Pair{pair(7, 1)}},
		{"one pair often", 1, nil, []api.Pair{pair(7, 8), pair(7, 8), pair(7, 8)}, 3, []api.Pair{pair(7, 8)}},
		{"one new key often, into a full one", 2, two, []api.Pair{pair(7, 8), pair(7, 9)}, 2, []api.Pair{pair(7, 9), pair(10, 11)}},
		{"a key that is there, into a full one", 2, two, []api.Pair{pair(20, 5), pair(20, 6)}, 2, []api.Pair{pair(20, 6), pair(10, 11)}},
		{"values of 0 into a full one", 2, two, []api.Pair{pair(10, 0), pair(20, 0)}, 2, []api.Pair{pair(20, 0), pair(10, 0)}},
		{"a new key into a full one", 2, two, []api.Pair{pair(15, 5)}, 1, []api.Pair{pair(15, 5), pair(10, 11)}},
		{"past the room", 3, two, []api.Pair{pair(1, 5), pair(2, 6), pair(3, 7)}, 3, []api.Pair{pair(3, 7), pair(2, 6), pair(1, 5)}},
		{"one that was evicted, once more", 1, nil, []api.Pair{pair(1, 5), pair(2, 6), pair(1, 7), pair(2, 8)}, 4, []api.Pair{pair(2, 8)}},
		{"one that is touched on the way stays", 2, two, []api.Pair{pair(1, 5), pair(10, 6), pair(2, 7)}, 3, []api.Pair{pair(2, 7), pair(10, 6)}},
		{"seventeen into the greatest", 16, nil, row(17), 17, backwards},
	} {
		l := made(t, c.room, c.was...)
		if n := l.Fill(c.ps...); n != c.n {
			t.Errorf("%s: %d, want %d", c.name, n, c.n)
		}
		want(t, c.name, l, c.room, c.is...)
	}
	l := made(t, 2, two...)
	if n := l.Fill(); n != 0 {
		t.Errorf("Fill(): %d", n)
	}
	want(t, "Fill()", l, 2, two...)
}

// TestTouch: P14.4; with no key, with one key often, with keys that aren't there: it is how many were found, each as often as it stands there.
func TestTouch(t *testing.T) {
	three := row(3)
	for _, c := range []struct {
		name string
		was  []api.Pair
		keys []uint64
		n    int
		is   []uint64
	}{
		{"nil, in an empty one", nil, nil, 0, nil},
		{"some, in an empty one", nil, []uint64{0, 1, most, 0}, 0, nil},
		{"nil", three, nil, 0, []uint64{10, 20, 30}},
		{"the empty list", three, []uint64{}, 0, []uint64{10, 20, 30}},
		{"none that is there", three, []uint64{0, 9, 11, 31, most}, 0, []uint64{10, 20, 30}},
		{"the first", three, []uint64{10}, 1, []uint64{10, 20, 30}},
		{"the middle", three, []uint64{20}, 1, []uint64{20, 10, 30}},
		{"the last", three, []uint64{30}, 1, []uint64{30, 10, 20}},
		{"one often", three, []uint64{20, 20, 20}, 3, []uint64{20, 10, 30}},
		{"one that isn't there, often", three, []uint64{21, 21, 21}, 0, []uint64{10, 20, 30}},
		{"all", three, []uint64{10, 20, 30}, 3, []uint64{30, 20, 10}},
		{"all, and others between", three, []uint64{5, 30, 6, 20, 7, 10, 8}, 3, []uint64{10, 20, 30}},
		{"the last time counts", three, []uint64{30, 20, 30, 10, 20}, 5, []uint64{20, 10, 30}},
		{"a key of 0", []api.Pair{pair(1, 1), pair(0, 0)}, []uint64{0}, 1, []uint64{0, 1}},
		{"the greatest key", []api.Pair{pair(1, 1), pair(most, 0)}, []uint64{most, 0}, 1, []uint64{most, 1}},
	} {
		for _, room := range []int{3, 4, 16} {
			l := made(t, room, c.was...)
			if n := l.Touch(c.keys...); n != c.n {
				t.Errorf("%s: %d, want %d", c.name, n, c.n)
			}
			if got := l.Order(); !slices.Equal(got, c.is) {
				t.Errorf("%s: Order %v, want %v", c.name, got, c.is)
			}
			if got := l.Pairs(); !slices.Equal(got, sorted(c.was)) {
				t.Errorf("%s: Pairs %v, want %v", c.name, got, sorted(c.was))
			}
		}
	}
	l := made(t, 3, three...)
	if n := l.Touch(); n != 0 {
		t.Errorf("Touch(): %d", n)
	}
	want(t, "Touch()", l, 3, three...)
}

// TestFillIsPuts: P14.4; one by one, as a list, and Put by hand are one.
func TestFillIsPuts(t *testing.T) {
	ps := []api.Pair{pair(5, 1), pair(4, 2), pair(5, 3), pair(6, 4), pair(4, 5), pair(7, 6)}
	a, b, c := made(t, 2), made(t, 2), made(t, 2)
	n := a.Fill(ps[0], ps[1], ps[2], ps[3], ps[4], ps[5])
	for _, p := range ps {
		b.Do(api.MapPut, p.Key, p.Val)
	}
	if k := c.Fill(ps...); n != 6 || k != 6 {
		t.Errorf("Fill: %d, %d, want 6 each", n, k)
	}
	for _, x := range []*lru.LRU{a, b, c} {
		want(t, "filled", x, 2, pair(7, 6), pair(4, 5))
	}
}

// TestTouchIsGets: P14.4; likewise.
func TestTouchIsGets(t *testing.T) {
	keys := []uint64{30, 5, 10, 30, 20, 6, 30}
	a, b, c := made(t, 4, row(4)...), made(t, 4, row(4)...), made(t, 4, row(4)...)
	n := a.Touch(keys[0], keys[1], keys[2], keys[3], keys[4], keys[5], keys[6])
	for _, k := range keys {
		b.Do(api.MapGet, k, 99)
	}
	if k := c.Touch(keys...); n != 5 || k != 5 {
		t.Errorf("Touch: %d, %d, want 5 each", n, k)
	}
	for _, x := range []*lru.LRU{a, b, c} {
		want(t, "touched", x, 4, pair(30, 33), pair(20, 22), pair(10, 11), pair(40, 44))
	}
}

// TestMany: lists far longer than any LRU.
func TestMany(t *testing.T) {
	ps := make([]api.Pair, 100000)
	for i := range ps {
		ps[i] = pair(uint64(i%50), uint64(i))
	}
	l := made(t, 16)
	if n := l.Fill(ps...); n != len(ps) {
		t.Errorf("Fill: %d, want %d", n, len(ps))
	}
	is := slices.Clone(ps[len(ps)-16:])
	slices.Reverse(is)
	want(t, "filled with many", l, 16, is...)
	if n := l.Touch(keysOf(ps)...); n != 16*2000 {
		t.Errorf("Touch: %d, want %d", n, 16*2000)
	}
	want(t, "touched many times", l, 16, is...)
}

// TestFillKeepsNothing: the pairs that were handed in stay as they were, their spare room too, and may be written to.
func TestFillKeepsNothing(t *testing.T) {
	for _, many := range []int{0, 1, 2, 5, 8} {
		list := []api.Pair{pair(9, 1), pair(3, 2), pair(7, 3), pair(3, 4), pair(1, 5), pair(8, 6), pair(2, 7), pair(9, 8)}
		kept := slices.Clone(list)
		for _, room := range []int{1, 3, 16} {
			l, w := made(t, room), &plain{room: room}
			if n, m := l.Fill(list[:many]...), w.fill(kept[:many]); n != m {
				t.Errorf("Fill with %d: %d, want %d", many, n, m)
			}
			for _, op := range lawful() {
				does(t, l, op, 9, 1, w.do(op, 9, 1))
				does(t, l, op, 4, 1, w.do(op, 4, 1))
			}
			if !slices.Equal(list, kept) {
				t.Fatalf("the list and its spare room: %v, want %v", list, kept)
			}
			for i := range list {
				list[i] = pair(most, most)
			}
			want(t, "behind writing to the list", l, room, w.list...)
			copy(list, kept)
		}
	}
}

// TestTouchKeepsNothing: likewise.
func TestTouchKeepsNothing(t *testing.T) {
	for _, many := range []int{0, 1, 2, 5, 8} {
		list := []uint64{30, 3, 10, 30, 20, 8, 40, 20}
		kept := slices.Clone(list)
		for _, room := range []int{4, 5, 16} {
			l, w := made(t, room, row(4)...), &plain{room, row(4)}
			if n, m := l.Touch(list[:many]...), w.touch(kept[:many]); n != m {
				t.Errorf("Touch with %d: %d, want %d", many, n, m)
			}
			for _, op := range lawful() {
				does(t, l, op, 20, 1, w.do(op, 20, 1))
				does(t, l, op, 4, 1, w.do(op, 4, 1))
			}
			if !slices.Equal(list, kept) {
				t.Fatalf("the list and its spare room: %v, want %v", list, kept)
			}
			for i := range list {
				list[i] = most
			}
			want(t, "behind writing to the list", l, room, w.list...)
			copy(list, kept)
		}
	}
}

// TestEveryOrder: P13.3, P14.3; Pairs rises by key and Order goes by recency, whatever the order in which keys came, were touched and went.
func TestEveryOrder(t *testing.T) {
	keys := []uint64{0, 3, 1 << 40, 1 << 63, most}
	for _, in := range orders(5) {
		for _, room := range []int{3, 5} {
			l, w := made(t, room), &plain{room: room}
			for _, op := range []api.MapOp{api.MapPut, api.MapGet, api.MapAdd, api.MapHas, api.MapDel} {
				for i, at := range in {
					if op == api.MapGet || op == api.MapDel {
						at = in[4-i]
					}
					does(t, l, op, keys[at], uint64(i), w.do(op, keys[at], uint64(i)))
					if !slices.Equal(l.Pairs(), sorted(w.list)) || !slices.Equal(l.Order(), keysOf(w.list)) {
						t.Fatalf("order %v, cap %d: Pairs %v, Order %v, want %v", in, room, l.Pairs(), l.Order(), w.list)
					}
				}
			}
		}
	}
}

// orders are all orders of so many things.
func orders(many int) [][]int {
	if many == 0 {
		return [][]int{nil}
	}
	var out [][]int
	for _, o := range orders(many - 1) {
		for at := range many {
			out = append(out, slices.Insert(slices.Clone(o), at, many-1))
		}
	}
	return out
}

// scribble writes over a list and all of its spare room, and appends to it.
func scribble[T any](list []T, with T) {
	whole := list[:cap(list)]
	for i := range whole {
		whole[i] = with
	}
	list = append(list, with, with)
	_ = append(list[:0], with)
}

// TestAnswersAreNew: P14.5; what Pairs and Order answered may be written to and appended to without the LRU or another answer changing, and stays when the LRU goes on.
func TestAnswersAreNew(t *testing.T) {
	for many := range 17 {
		ps := row(many)
		l := made(t, 16, ps...)
		pairs, order := l.Pairs(), l.Order()
		scribble(l.Pairs(), pair(999, 999))
		scribble(l.Order(), 999)
		want(t, "behind writing to the answers", l, 16, ps...)
		if !slices.Equal(pairs, sorted(ps)) || !slices.Equal(order, keysOf(ps)) {
			t.Errorf("two answers share memory: %v, %v, want %v", pairs, order, ps)
		}
		longer := append(l.Order(), 7)
		l.Fill(pair(5, 6), pair(10, 7), pair(800, 8))
		l.Touch(20, 30, 5)
		l.Do(api.MapAdd, 20, 100)
		l.Do(api.MapDel, 10, 0)
		if !slices.Equal(pairs, sorted(ps)) || !slices.Equal(order, keysOf(ps)) || !slices.Equal(longer, append(keysOf(ps), 7)) {
			t.Errorf("an answer went on with its LRU: %v, %v, %v, want %v", pairs, order, longer, ps)
		}
	}
}

// TestAnswersBehindEachStep: likewise at each step of a script in which keys come, go and are driven out.
func TestAnswersBehindEachStep(t *testing.T) {
	r := rand.New(rand.NewSource(145))
	for room := 1; room <= 16; room++ {
		l, m := made(t, room), &plain{room: room}
		for i, s := range script(r, 200) {
			got, w := play(l, s), tell(m, s)
			if !same(got, w) {
				t.Fatalf("cap %d, step %d, %v: %v, want %v", room, i, s, got, w)
			}
			scribble(got.pairs, pair(uint64(i), 3))
			scribble(got.order, uint64(i))
		}
	}
}

// shard is what the layers above ask of a map of one shard.
type shard interface {
	Do(op api.MapOp, key, val uint64) api.Res
	Pairs() []api.Pair
	Len() int
	Cap() int
}

// TestEmbedded: Len, Cap and Pairs are those of the embedded book at all times; Do and Fill are the LRU's own, through an interface too.
func TestEmbedded(t *testing.T) {
	r := rand.New(rand.NewSource(14))
	for room := 1; room <= 16; room++ {
		l := made(t, room)
		for _, s := range script(r, 200) {
			play(l, s)
			var b *book.Book = l.Book
			if b.Len() != l.Len() || b.Cap() != l.Cap() || !slices.Equal(b.Pairs(), l.Pairs()) {
				t.Fatalf("cap %d: the book has %d, %d, %v, the LRU %d, %d, %v", room, b.Len(), b.Cap(), b.Pairs(), l.Len(), l.Cap(), l.Pairs())
			}
			for _, p := range l.Pairs() {
				if got := b.Do(api.MapGet, p.Key, 0); got != (api.Res{Found: true, Val: p.Val}) {
					t.Fatalf("cap %d: the book's Get of %d: %v", room, p.Key, got)
				}
			}
		}
	}
	l := made(t, 1, pair(1, 2))
	var s shard = l
	if got := s.Do(api.MapPut, 3, 4); got != (api.Res{Out: true, OutKey: 1, OutVal: 2}) || s.Len() != 1 || s.Cap() != 1 || !slices.Equal(s.Pairs(), []api.Pair{pair(3, 4)}) {
		t.Errorf("through an interface: %v, %d, %d, %v", got, s.Len(), s.Cap(), s.Pairs())
	}
}

// TestPastTheLRU: P1, P14.5; what the book's own calls do past the LRU can't make it panic, evict a key that isn't there, or tell an order of other keys than there are.
func TestPastTheLRU(t *testing.T) {
	l := made(t, 2)
	l.Book.Fill(pair(1, 10), pair(2, 20))
	want(t, "filled past it", l, 2, pair(1, 10), pair(2, 20))
	does(t, l, api.MapPut, 3, 30, api.Res{Out: true, OutKey: 2, OutVal: 20})
	want(t, "full all the same", l, 2, pair(3, 30), pair(1, 10))
	l.Book.Do(api.MapDel, 1, 0)
	want(t, "deleted past it", l, 2, pair(3, 30))
	l.Book.Do(api.MapPut, 5, 50)
	does(t, l, api.MapAdd, 4, 40, api.Res{Val: 40, Out: true, OutKey: 5, OutVal: 50})
	want(t, "in the end", l, 2, pair(4, 40), pair(3, 30))
	l = made(t, 3, row(2)...)
	does(t, l, api.MapDel, 10, 0, api.Res{Found: true, Val: 11})
	does(t, l, api.MapGet, 30, 0, api.Res{})
	l.Book.Fill(pair(10, 1), pair(30, 3))
	want(t, "nothing is kept of a key that isn't there", l, 3, pair(20, 22), pair(10, 1), pair(30, 3))
	r := rand.New(rand.NewSource(141))
	for room := 1; room <= 16; room++ {
		l := made(t, room)
		for _, s := range script(r, 300) {
			before := l.Pairs()
			if r.Intn(3) == 0 {
				l.Book.Do(s.op, s.key, s.val)
			} else if got := l.Do(s.op, s.key, s.val); got.E == api.ErrFull || got.Out && (len(before) < room || !slices.Contains(before, pair(got.OutKey, got.OutVal))) {
				t.Fatalf("cap %d, %v, %v: %v", room, before, s, got)
			}
			order := l.Order()
			slices.Sort(order)
			if !slices.Equal(order, keysOf(l.Pairs())) || l.Len() > room {
				t.Fatalf("cap %d, %v: Order %v, Pairs %v", room, s, l.Order(), l.Pairs())
			}
		}
	}
}

// step is a call of a script: Do, or, where fills or touches holds, Fill or Touch.
type step struct {
	op             api.MapOp
	key, val       uint64
	fills, touches bool
	ps             []api.Pair
}

// answer is what a step was answered, and what can be read of the LRU behind it.
type answer struct {
	res   api.Res
	n     int
	pairs []api.Pair
	order []uint64
	size  int
	room  int
}

// same tells whether two answers are equal, where nil and empty are one.
func same(a, b answer) bool {
	return a.res == b.res && a.n == b.n && slices.Equal(a.pairs, b.pairs) && slices.Equal(a.order, b.order) && a.size == b.size && a.room == b.room
}

// play does a step on an LRU.
func play(l *lru.LRU, s step) answer {
	var a answer
	switch {
	case s.fills:
		a.n = l.Fill(s.ps...)
	case s.touches:
		a.n = l.Touch(keysOf(s.ps)...)
	default:
		a.res = l.Do(s.op, s.key, s.val)
	}
	a.pairs, a.order, a.size, a.room = l.Pairs(), l.Order(), l.Len(), l.Cap()
	return a
}

// tell is what play must answer.
func tell(m *plain, s step) answer {
	var a answer
	switch {
	case s.fills:
		a.n = m.fill(s.ps)
	case s.touches:
		a.n = m.touch(keysOf(s.ps))
	default:
		a.res = m.do(s.op, s.key, s.val)
	}
	a.pairs, a.order, a.size, a.room = sorted(m.list), keysOf(m.list), len(m.list), m.room
	return a
}

// some is a number out of a few, so that keys come again, or any.
func some(r *rand.Rand) uint64 {
	switch r.Intn(8) {
	case 0:
		return edges()[r.Intn(len(edges()))]
	case 1:
		return r.Uint64()
	}
	return uint64(r.Intn(24))
}

// script is a random list of steps; most are lawful operations.
func script(r *rand.Rand, many int) []step {
	var out []step
	for range many {
		s := step{op: lawful()[r.Intn(5)], key: some(r), val: some(r)}
		switch r.Intn(16) {
		case 0:
			s.op = otherOps()[r.Intn(len(otherOps()))]
		case 1:
			s.fills = true
		case 2, 3:
			s.touches = true
		}
		if s.fills || s.touches {
			for range r.Intn(6) {
				s.ps = append(s.ps, pair(some(r), some(r)))
			}
		}
		out = append(out, s)
	}
	return out
}

// TestTold: P14.1 to P14.4; random scripts, held call by call against a plain list in the order of recency, for each cap.
func TestTold(t *testing.T) {
	r := rand.New(rand.NewSource(14))
	for range 40 {
		for room := 1; room <= 16; room++ {
			l, m := made(t, room), &plain{room: room}
			for i, s := range script(r, 150) {
				if got, w := play(l, s), tell(m, s); !same(got, w) {
					t.Fatalf("cap %d, step %d, %v: %v, want %v", room, i, s, got, w)
				}
			}
		}
	}
}

// TestWhereEvicted: P14.5 and DOC's P6; in random scripts a key is evicted just where one that isn't there is put or added while as many are there as may be, and it is the last of Order then, with the value that it had.
func TestWhereEvicted(t *testing.T) {
	r := rand.New(rand.NewSource(1405))
	for range 40 {
		for room := 1; room <= 16; room++ {
			l := made(t, room)
			for _, s := range script(r, 150) {
				order, pairs := l.Order(), l.Pairs()
				w := api.Res{}
				if len(order) == room && !slices.Contains(order, s.key) && (s.op == api.MapPut || s.op == api.MapAdd) {
					w = api.Res{Out: true, OutKey: order[room-1]}
					w.OutVal = pairs[slices.Index(keysOf(pairs), w.OutKey)].Val
				}
				got := l.Do(s.op, s.key, s.val)
				if got.Out != w.Out || got.OutKey != w.OutKey || got.OutVal != w.OutVal || l.Len() > l.Cap() {
					t.Fatalf("cap %d, %v in %v, order %v: %v, want %v", room, s, pairs, order, got, w)
				}
				if w.Out && slices.Contains(l.Order(), w.OutKey) {
					t.Fatalf("cap %d: %d was evicted and is there", room, w.OutKey)
				}
			}
		}
	}
}

// TestAsABook: P14.2; where nothing is evicted, an LRU answers what a book does, and has the same keys and values.
func TestAsABook(t *testing.T) {
	r := rand.New(rand.NewSource(1402))
	for room := 1; room <= 16; room++ {
		l := made(t, room)
		b, _ := book.New(room)
		for _, s := range script(r, 600) {
			w := b.Do(s.op, s.key, s.val)
			if w.E == api.ErrFull {
				continue
			}
			if got := l.Do(s.op, s.key, s.val); got != w || !slices.Equal(l.Pairs(), b.Pairs()) {
				t.Fatalf("cap %d, %v: %v and %v, want %v and %v", room, s, got, l.Pairs(), w, b.Pairs())
			}
		}
	}
}

// TestTurns: P14.5; two LRUs in turns, in any turns, answer as each alone, of one cap and of two.
func TestTurns(t *testing.T) {
	r := rand.New(rand.NewSource(135))
	for range 200 {
		rooms := [2]int{1 + r.Intn(16), 1 + r.Intn(16)}
		if r.Intn(2) == 0 {
			rooms[1] = rooms[0]
		}
		var scripts [2][]step
		var alone, turns [2][]answer
		var ls [2]*lru.LRU
		for i := range 2 {
			scripts[i] = script(r, 60)
			l := made(t, rooms[i])
			for _, s := range scripts[i] {
				alone[i] = append(alone[i], play(l, s))
			}
			ls[i] = made(t, rooms[i])
		}
		for len(turns[0])+len(turns[1]) < 120 {
			i := r.Intn(2)
			if at := len(turns[i]); at < 60 {
				turns[i] = append(turns[i], play(ls[i], scripts[i][at]))
			}
		}
		for i := range 2 {
			if !slices.EqualFunc(alone[i], turns[i], same) {
				t.Fatalf("caps %v, LRU %d in turns: %v, want %v", rooms, i, turns[i], alone[i])
			}
		}
	}
}

// TestApart: P14.5; what is done to one LRU is seen in no other, of those made ahead of it and behind it.
func TestApart(t *testing.T) {
	a := made(t, 3, row(3)...)
	b := made(t, 3, row(3)...)
	a.Touch(30)
	a.Do(api.MapPut, 10, 1)
	a.Do(api.MapDel, 20, 0)
	a.Fill(pair(1, 1), pair(2, 2))
	want(t, "b behind what was done to a", b, 3, row(3)...)
	want(t, "a", a, 3, pair(2, 2), pair(1, 1), pair(10, 1))
	does(t, b, api.MapAdd, 40, 4, api.Res{Val: 4, Out: true, OutKey: 30, OutVal: 33})
	want(t, "a behind what was done to b", a, 3, pair(2, 2), pair(1, 1), pair(10, 1))
	if n := a.Touch(b.Order()...); n != 1 {
		t.Errorf("Touch of a by b's keys: %d", n)
	}
	if n := a.Fill(b.Pairs()...); n != 3 {
		t.Errorf("Fill of a by b's pairs: %d", n)
	}
	want(t, "a filled by b's", a, 3, pair(40, 4), pair(20, 22), pair(10, 11))
	want(t, "b behind that", b, 3, pair(40, 4), pair(10, 11), pair(20, 22))
	want(t, "a new one", made(t, 3), 3)
}

// TestAnswersHangOnCallsAlone: one script on two LRUs, with calls between that change nothing on the one: the same answers.
func TestAnswersHangOnCallsAlone(t *testing.T) {
	r := rand.New(rand.NewSource(7))
	for room := 1; room <= 16; room++ {
		a, b := made(t, room), made(t, room)
		for _, s := range script(r, 200) {
			for range r.Intn(4) {
				b.Do(api.MapHas, some(r), some(r))
				b.Do(9, some(r), some(r))
				b.Fill()
				b.Touch()
				if order := b.Order(); len(order) > 0 {
					b.Do(api.MapGet, order[0], some(r))
				}
			}
			if got, w := play(b, s), play(a, s); !same(got, w) {
				t.Fatalf("cap %d, %v: %v, want %v", room, s, got, w)
			}
		}
	}
}

// FuzzTold: bytes read as a cap and steps, held against a plain list in the order of recency.
func FuzzTold(f *testing.F) {
	f.Add([]byte{2, 2, 1, 10, 2, 2, 20, 0, 1, 0, 1, 2, 0, 2, 3, 30, 4, 4, 5, 3, 3, 0, 2, 9, 1, 40, 9, 8, 7, 1, 1})
	f.Add([]byte{1, 2, 0, 0, 4, 0, 255, 3, 0, 0, 2, 255, 255})
	f.Add([]byte{16, 2, 1, 1, 2, 2, 2, 10, 3, 3, 3, 1, 1})
	f.Fuzz(func(t *testing.T, data []byte) {
		if len(data) == 0 {
			return
		}
		room := int(int8(data[0]))
		l, e := lru.New(room)
		if room < 1 || room > 16 {
			if l != nil || e != api.ErrArg {
				t.Fatalf("New(%d): %v, %v", room, l, e)
			}
			return
		}
		m := &plain{room: room}
		for at := 1; at+3 <= len(data); at += 3 {
			s := step{op: api.MapOp(int8(data[at])), key: wide(data[at+1]), val: wide(data[at+2])}
			s.fills, s.touches = s.op >= 10 && s.op < 40, s.op >= 40
			if s.fills || s.touches {
				for _, c := range data[at:min(at+20, len(data))] {
					s.ps = append(s.ps, pair(wide(c), wide(c+7)))
				}
			}
			if got, w := play(l, s), tell(m, s); !same(got, w) {
				t.Fatalf("cap %d, step at %d, %v: %v, want %v", room, at, s, got, w)
			}
		}
	})
}

// wide is a number out of a byte: small ones as they are, others spread over all 64 bits.
func wide(c byte) uint64 {
	if c < 64 {
		return uint64(c)
	}
	return binary.BigEndian.Uint64([]byte{c, 0, 0, 0, 0, 0, 0, c}) - 64
}
