package book_test

import (
	"encoding/binary"
	"maps"
	"math"
	"math/rand"
	"slices"
	"testing"

	"tappet/api"
	"tappet/book"
)

const most = uint64(math.MaxUint64)

// lawful are the operations, each once.
func lawful() []api.MapOp {
	return []api.MapOp{api.MapGet, api.MapHas, api.MapPut, api.MapDel, api.MapAdd}
}

// otherOps are numbers of no operation: just beside the ends, far off, and such that are operations modulo 5, 2^3, 2^8, 2^16 or 2^32.
func otherOps() []api.MapOp {
	return []api.MapOp{-1, -2, -3, -4, -5, -8, -256, -65536, math.MinInt32, -1 << 32, math.MinInt, math.MinInt + 2,
		5, 6, 7, 8, 10, 12, 255, 256, 258, 65538, math.MaxInt32, 1 << 32, 1<<32 + 2, math.MaxInt - 1, math.MaxInt}
}

// edges are keys and values at which something could go wrong.
func edges() []uint64 {
	return []uint64{0, 1, 2, 255, 256, 1<<31 - 1, 1 << 31, 1<<32 - 1, 1 << 32, 1<<32 + 1, 1<<63 - 1, 1 << 63, 1<<63 + 1, most - 1, most}
}

// plain is what the chapter tells of a book: a map of Go's own, and how many keys it may have.
type plain struct {
	room int
	vals map[uint64]uint64
}

// fresh is one without keys.
func fresh(room int) *plain {
	return &plain{room, map[uint64]uint64{}}
}

// do is P13.2, a row of its table after another.
func (m *plain) do(op api.MapOp, key, val uint64) api.Res {
	if op < 0 || op > 4 {
		return api.Res{E: 2}
	}
	was, there := m.vals[key]
	if !there && len(m.vals) == m.room && (op == api.MapPut || op == api.MapAdd) {
		return api.Res{E: 40}
	}
	switch op {
	case api.MapHas:
		return api.Res{Found: there}
	case api.MapPut:
		m.vals[key] = val
	case api.MapDel:
		delete(m.vals, key)
	case api.MapAdd:
		m.vals[key] = was + val
		return api.Res{Found: there, Val: was + val}
	}
	return api.Res{Found: there, Val: was}
}

// fill is P13.4.
func (m *plain) fill(ps []api.Pair) int {
	in := 0
	for _, p := range ps {
		if m.do(api.MapPut, p.Key, p.Val).E == 0 {
			in++
		}
	}
	return in
}

// pairs are P13.3's.
func (m *plain) pairs() []api.Pair {
	var out []api.Pair
	for _, k := range slices.Sorted(maps.Keys(m.vals)) {
		out = append(out, api.Pair{Key: k, Val: m.vals[k]})
	}
	return out
}

// made is a new book that was filled with pairs, all of which went in.
func made(t *testing.T, room int, ps ...api.Pair) *book.Book {
	t.Helper()
	b, e := book.New(room)
	if b == nil || e != api.OK {
		t.Fatalf("New(%d): %v, %v", room, b, e)
	}
	for _, p := range ps {
		if r := b.Do(api.MapPut, p.Key, p.Val); r.E != api.OK {
			t.Fatalf("Put of %v: %v", p, r)
		}
	}
	return b
}

// want fails if a book's answers to Pairs, Len and Cap, and to MapGet and MapHas of these keys and their neighbours, aren't as told.
func want(t *testing.T, when string, b *book.Book, room int, ps ...api.Pair) {
	t.Helper()
	if got := b.Pairs(); !slices.Equal(got, ps) {
		t.Errorf("%s: Pairs %v, want %v", when, got, ps)
	}
	if b.Len() != len(ps) || b.Cap() != room {
		t.Errorf("%s: Len %d, Cap %d, want %d, %d", when, b.Len(), b.Cap(), len(ps), room)
	}
	vals := map[uint64]uint64{}
	for _, p := range ps {
		vals[p.Key] = p.Val
	}
	for _, p := range append(slices.Clone(ps), api.Pair{}) {
		for _, k := range []uint64{p.Key - 1, p.Key, p.Key + 1} {
			v, there := vals[k]
			if r := b.Do(api.MapGet, k, 77); r != (api.Res{Found: there, Val: v}) {
				t.Errorf("%s: Get of %d: %v, want %t, %d", when, k, r, there, v)
			}
			if r := b.Do(api.MapHas, k, 77); r != (api.Res{Found: there}) {
				t.Errorf("%s: Has of %d: %v, want %t", when, k, r, there)
			}
		}
	}
	if got := b.Pairs(); !slices.Equal(got, ps) {
		t.Errorf("%s: Pairs behind asking %v, want %v", when, got, ps)
	}
}

// row are pairs with so many keys, 10, 20 and so on, with values 11, 22 and so on.
func row(many int) []api.Pair {
	var ps []api.Pair
	for i := range many {
		n := uint64(i + 1)
		ps = append(ps, api.Pair{Key: 10 * n, Val: 11 * n})
	}
	return ps
}

// TestExamples: the chapter's table.
func TestExamples(t *testing.T) {
	b := made(t, 2)
	step := func(op api.MapOp, key, val uint64, w api.Res) {
		t.Helper()
		if r := b.Do(op, key, val); r != w {
			t.Errorf("Do(%d, %d, %d): %v, want %v", op, key, val, r, w)
		}
	}
	step(api.MapPut, 5, 50, api.Res{})
	step(api.MapPut, 5, 51, api.Res{Found: true, Val: 50})
	step(api.MapAdd, 3, 4, api.Res{Val: 4})
	step(api.MapPut, 9, 1, api.Res{E: api.ErrFull})
	step(api.MapAdd, 9, 1, api.Res{E: api.ErrFull})
	step(api.MapAdd, 3, 1, api.Res{Found: true, Val: 5})
	step(api.MapHas, 5, 0, api.Res{Found: true})
	step(api.MapGet, 5, 0, api.Res{Found: true, Val: 51})
	step(api.MapGet, 6, 0, api.Res{})
	step(5, 5, 0, api.Res{E: api.ErrArg})
	want(t, "full", b, 2, api.Pair{Key: 3, Val: 5}, api.Pair{Key: 5, Val: 51})
	step(api.MapDel, 5, 0, api.Res{Found: true, Val: 51})
	step(api.MapDel, 5, 0, api.Res{})
	if n := b.Fill(api.Pair{Key: 7, Val: 1}, api.Pair{Key: 8, Val: 1}, api.Pair{Key: 7, Val: 2}); n != 2 {
		t.Errorf("Fill: %d, want 2", n)
	}
	want(t, "filled", b, 2, api.Pair{Key: 3, Val: 5}, api.Pair{Key: 7, Val: 2})
	for _, room := range []int{0, 17} {
		if b, e := book.New(room); b != nil || e != api.ErrArg {
			t.Errorf("New(%d): %v, %v", room, b, e)
		}
	}
}

// TestNew: P13.1; just the caps 1 to 16, the edges and what is one of these modulo 2^8, 2^16 or 2^32 written out.
func TestNew(t *testing.T) {
	rooms := []int{math.MinInt, math.MinInt + 1, math.MinInt + 2, -1 << 32, -1<<32 + 4, math.MinInt32, -65535,
		65537, math.MaxInt32, 1 << 32, 1<<32 + 1, 1<<32 + 16, math.MaxInt - 1, math.MaxInt}
	for room := -300; room <= 300; room++ {
		rooms = append(rooms, room)
	}
	for _, room := range rooms {
		b, e := book.New(room)
		if room < 1 || room > 16 {
			if b != nil || e != api.ErrArg {
				t.Errorf("New(%d): %v, %v", room, b, e)
			}
			continue
		}
		if b == nil || e != api.OK {
			t.Fatalf("New(%d): %v, %v", room, b, e)
		}
		want(t, "a new one", b, room)
		if other, _ := book.New(room); other == b {
			t.Errorf("New(%d) answers one book twice", room)
		}
	}
	old := made(t, 16, row(16)...)
	want(t, "New behind a full one", made(t, 16), 16)
	want(t, "the full one", old, 16, row(16)...)
}

// TestRoom: P13.1, P13.2, P13.3; into a book go just as many keys as its cap says, by Put and by Add, for each cap.
func TestRoom(t *testing.T) {
	for room := 1; room <= 16; room++ {
		for _, op := range []api.MapOp{api.MapPut, api.MapAdd} {
			b, ps := made(t, room), row(20)
			for i, p := range ps {
				r := b.Do(op, p.Key, p.Val)
				w := api.Res{}
				if op == api.MapAdd {
					w.Val = p.Val
				}
				if i >= room {
					w = api.Res{E: api.ErrFull}
				}
				if r != w {
					t.Errorf("cap %d, key number %d by operation %d: %v, want %v", room, i, op, r, w)
				}
				want(t, "on the way", b, room, ps[:min(i+1, room)]...)
			}
		}
	}
}

// TestTable: P13.2; each operation with a key that is there and with one that isn't, in a book that is empty, has room and is full.
func TestTable(t *testing.T) {
	full := api.Res{E: api.ErrFull}
	none, three := []api.Pair{}, []api.Pair{{Key: 2, Val: 20}, {Key: 4, Val: 40}, {Key: 6, Val: 60}}
	for _, c := range []struct {
		room     int
		was      []api.Pair
		op       api.MapOp
		key, val uint64
		res      api.Res
		is       []api.Pair
	}{
		{1, none, api.MapGet, 4, 5, api.Res{}, none},
		{1, none, api.MapHas, 4, 5, api.Res{}, none},
		{1, none, api.MapPut, 4, 5, api.Res{}, []api.Pair{{Key: 4, Val: 5}}},
		{1, none, api.MapDel, 4, 5, api.Res{}, none},
		{1, none, api.MapAdd, 4, 5, api.Res{Val: 5}, []api.Pair{{Key: 4, Val: 5}}},
		{4, three, api.MapGet, 4, 5, api.Res{Found: true, Val: 40}, three},
		{4, three, api.MapHas, 4, 5, api.Res{Found: true}, three},
		{4, three, api.MapPut, 4, 5, api.Res{Found: true, Val: 40}, []api.Pair{{Key: 2, Val: 20}, {Key: 4, Val: 5}, {Key: 6, Val: 60}}},
		{4, three, api.MapDel, 4, 5, api.Res{Found: true, Val: 40}, []api.Pair{{Key: 2, Val: 20}, {Key: 6, Val: 60}}},
		{4, three, api.MapAdd, 4, 5, api.Res{Found: true, Val: 45}, []api.Pair{{Key: 2, Val: 20}, {Key: 4, Val: 45}, {Key: 6, Val: 60}}},
		{4, three, api.MapGet, 3, 5, api.Res{}, three},
		{4, three, api.MapHas, 3, 5, api.Res{}, three},
		{4, three, api.MapPut, 3, 5, api.Res{}, []api.Pair{{Key: 2, Val: 20}, {Key: 3, Val: 5}, {Key: 4, Val: 40}, {Key: 6, Val: 60}}},
		{4, three, api.MapDel, 3, 5, api.Res{}, three},
		{4, three, api.MapAdd, 3, 5, api.Res{Val: 5}, []api.Pair{{Key: 2, Val: 20}, {Key: 3, Val: 5}, {Key: 4, Val: 40}, {Key: 6, Val: 60}}},
		{4, three, api.MapPut, 1, 5, api.Res{}, []api.Pair{{Key: 1, Val: 5}, {Key: 2, Val: 20}, {Key: 4, Val: 40}, {Key: 6, Val: 60}}},
		{4, three, api.MapAdd, 7, 5, api.Res{Val: 5}, []api.Pair{{Key: 2, Val: 20}, {Key: 4, Val: 40}, {Key: 6, Val: 60}, {Key: 7, Val: 5}}},
		{4, three, api.MapDel, 2, 5, api.Res{Found: true, Val: 20}, []api.Pair{{Key: 4, Val: 40}, {Key: 6, Val: 60}}},
		{4, three, api.MapDel, 6, 5, api.Res{Found: true, Val: 60}, []api.Pair{{Key: 2, Val: 20}, {Key: 4, Val: 40}}},
		{3, three, api.MapGet, 6, 5, api.Res{Found: true, Val: 60}, three},
		{3, three, api.MapHas, 6, 5, api.Res{Found: true}, three},
		{3, three, api.MapPut, 6, 5, api.Res{Found: true, Val: 60}, []api.Pair{{Key: 2, Val: 20}, {Key: 4, Val: 40}, {Key: 6, Val: 5}}},
		{3, three, api.MapDel, 6, 5, api.Res{Found: true, Val: 60}, []api.Pair{{Key: 2, Val: 20}, {Key: 4, Val: 40}}},
		{3, three, api.MapAdd, 6, 5, api.Res{Found: true, Val: 65}, []api.Pair{{Key: 2, Val: 20}, {Key: 4, Val: 40}, {Key: 6, Val: 65}}},
		{3, three, api.MapGet, 7, 5, api.Res{}, three},
		{3, three, api.MapHas, 7, 5, api.Res{}, three},
		{3, three, api.MapPut, 7, 5, full, three},
		{3, three, api.MapDel, 7, 5, api.Res{}, three},
		{3, three, api.MapAdd, 7, 5, full, three},
		{3, three, api.MapPut, 1, 5, full, three},
		{3, three, api.MapAdd, 5, 5, full, three},
	} {
		b := made(t, c.room, c.was...)
		if r := b.Do(c.op, c.key, c.val); r != c.res {
			t.Errorf("cap %d, %v, Do(%d, %d, %d): %v, want %v", c.room, c.was, c.op, c.key, c.val, r, c.res)
		}
		want(t, "behind it", b, c.room, c.is...)
	}
}

// TestOtherOps: P13.2; ErrArg alone, ahead of whether there is room, and nothing changes.
func TestOtherOps(t *testing.T) {
	for _, many := range []int{0, 1, 3} {
		b := made(t, 3, row(many)...)
		for _, op := range otherOps() {
			for _, key := range []uint64{0, 10, 11, 30, 31, most} {
				for _, val := range []uint64{0, 1, most} {
					if r := b.Do(op, key, val); r != (api.Res{E: api.ErrArg}) {
						t.Errorf("%d keys, Do(%d, %d, %d): %v", many, op, key, val, r)
					}
				}
			}
		}
		want(t, "behind others", b, 3, row(many)...)
	}
}

// TestEverySmallOp: just 0 to 4 are operations.
func TestEverySmallOp(t *testing.T) {
	for op := api.MapOp(-300); op <= 300; op++ {
		r := made(t, 1).Do(op, 1, 1)
		if right := op >= 0 && op <= 4; right != (r.E == api.OK) || !right && r != (api.Res{E: api.ErrArg}) {
			t.Errorf("operation %d: %v", op, r)
		}
	}
}

// TestRefused: P13.2; a new key, below, between and above those that fill the book, is refused as often as it comes, with ErrFull alone, and nothing has changed; for each cap.
func TestRefused(t *testing.T) {
	for room := 1; room <= 16; room++ {
		ps := row(room)
		b := made(t, room, ps...)
		for range 3 {
			for key := uint64(0); key <= uint64(10*room+15); key += 5 {
				if key > 0 && key%10 == 0 && key <= uint64(10*room) {
					continue
				}
				for _, op := range []api.MapOp{api.MapPut, api.MapAdd} {
					for _, val := range []uint64{0, 7, most} {
						if r := b.Do(op, key, val); r != (api.Res{E: api.ErrFull}) {
							t.Errorf("cap %d, Do(%d, %d, %d): %v", room, op, key, val, r)
						}
					}
				}
			}
		}
		want(t, "behind what was refused", b, room, ps...)
		last := uint64(10 * room)
		if r := b.Do(api.MapDel, last, 0); r != (api.Res{Found: true, Val: ps[room-1].Val}) {
			t.Errorf("cap %d, Del of %d: %v", room, last, r)
		}
		if r := b.Do(api.MapAdd, last+5, 3); r != (api.Res{Val: 3}) {
			t.Errorf("cap %d, Add of a key that was refused ahead of it: %v", room, r)
		}
		want(t, "behind Del and Add", b, room, append(ps[:room-1], api.Pair{Key: last + 5, Val: 3})...)
	}
}

// TestFullButThere: P13.2; Put and Add of each key that is there change its value in a full book, and no other's.
func TestFullButThere(t *testing.T) {
	for room := 1; room <= 16; room++ {
		ps := row(room)
		b := made(t, room, ps...)
		for i := range ps {
			was := ps[i].Val
			if r := b.Do(api.MapPut, ps[i].Key, 1000); r != (api.Res{Found: true, Val: was}) {
				t.Errorf("cap %d, Put of %d: %v, want %d", room, ps[i].Key, r, was)
			}
			ps[i].Val = 1000
			want(t, "behind Put", b, room, ps...)
			if r := b.Do(api.MapAdd, ps[i].Key, 5); r != (api.Res{Found: true, Val: 1005}) {
				t.Errorf("cap %d, Add to %d: %v", room, ps[i].Key, r)
			}
			ps[i].Val = 1005
			want(t, "behind Add", b, room, ps...)
		}
	}
}

// TestAddOver: P13.2; modulo 2^64, and no key carries over into another.
func TestAddOver(t *testing.T) {
	b := made(t, 3, api.Pair{Key: 1, Val: 100}, api.Pair{Key: 2, Val: most}, api.Pair{Key: 3, Val: 300})
	for _, c := range []struct{ add, is uint64 }{{1, 0}, {most, most}, {most, most - 1}, {2, 0}, {0, 0}, {1 << 63, 1 << 63}, {1 << 63, 0},
		{1<<32 - 1, 1<<32 - 1}, {1, 1 << 32}, {most - 1<<32, most}, {0, most}} {
		if r := b.Do(api.MapAdd, 2, c.add); r != (api.Res{Found: true, Val: c.is}) {
			t.Errorf("Add of %d: %v, want %d", c.add, r, c.is)
		}
		want(t, "behind Add", b, 3, api.Pair{Key: 1, Val: 100}, api.Pair{Key: 2, Val: c.is}, api.Pair{Key: 3, Val: 300})
	}
	b = made(t, 1)
	if r := b.Do(api.MapAdd, 7, most); r != (api.Res{Val: most}) {
		t.Errorf("Add of the greatest number to a key that isn't there: %v", r)
	}
	if r := b.Do(api.MapAdd, 7, most); r != (api.Res{Found: true, Val: most - 1}) {
		t.Errorf("Add of it once more: %v", r)
	}
}

// TestNoughtIsThere: a key whose value is 0 is there, be it put, added or come to 0 by an Add; it takes room, and Found tells it.
func TestNoughtIsThere(t *testing.T) {
	for _, op := range []api.MapOp{api.MapPut, api.MapAdd} {
		b := made(t, 1)
		if r := b.Do(op, 8, 0); r != (api.Res{}) {
			t.Errorf("operation %d of a new key with 0: %v", op, r)
		}
		want(t, "with a 0", b, 1, api.Pair{Key: 8})
		if r := b.Do(op, 9, 0); r != (api.Res{E: api.ErrFull}) {
			t.Errorf("operation %d of another: %v", op, r)
		}
		if r := b.Do(op, 8, 0); r != (api.Res{Found: true}) {
			t.Errorf("operation %d of it once more: %v", op, r)
		}
		if r := b.Do(api.MapDel, 8, 0); r != (api.Res{Found: true}) {
			t.Errorf("Del of it: %v", r)
		}
		want(t, "without it", b, 1)
	}
	b := made(t, 1, api.Pair{Key: 8, Val: 1})
	if r := b.Do(api.MapAdd, 8, most); r != (api.Res{Found: true}) {
		t.Errorf("Add that comes to 0: %v", r)
	}
	want(t, "come to 0", b, 1, api.Pair{Key: 8})
}

// TestEnds: keys and values of 0 and of the greatest number, and others near the powers of two, each with each operation.
func TestEnds(t *testing.T) {
	for _, key := range edges() {
		for _, val := range edges() {
			b := made(t, 1)
			for _, c := range []struct {
				op  api.MapOp
				res api.Res
			}{
				{api.MapHas, api.Res{}}, {api.MapGet, api.Res{}}, {api.MapDel, api.Res{}},
				{api.MapAdd, api.Res{Val: val}}, {api.MapHas, api.Res{Found: true}}, {api.MapGet, api.Res{Found: true, Val: val}},
				{api.MapAdd, api.Res{Found: true, Val: 2 * val}}, {api.MapPut, api.Res{Found: true, Val: 2 * val}},
				{api.MapPut, api.Res{Found: true, Val: val}}, {api.MapDel, api.Res{Found: true, Val: val}}, {api.MapDel, api.Res{}},
				{api.MapPut, api.Res{}}, {api.MapGet, api.Res{Found: true, Val: val}},
			} {
				if r := b.Do(c.op, key, val); r != c.res {
					t.Errorf("Do(%d, %d, %d): %v, want %v", c.op, key, val, r, c.res)
				}
			}
			want(t, "in the end", b, 1, api.Pair{Key: key, Val: val})
		}
	}
	var ps []api.Pair
	for i, key := range edges() {
		ps = append(ps, api.Pair{Key: key, Val: uint64(i)})
	}
	want(t, "all of them at once", made(t, 15, ps...), 15, ps...)
	b := made(t, 15)
	if n := b.Fill(ps...); n != 15 {
		t.Errorf("Fill with all of them: %d", n)
	}
	want(t, "filled with all of them", b, 15, ps...)
}

// TestGetAndHasIgnoreVal: what isn't used of a call's arguments isn't seen, in Del neither.
func TestGetAndHasIgnoreVal(t *testing.T) {
	for _, val := range edges() {
		b := made(t, 2, row(2)...)
		if r := b.Do(api.MapGet, 20, val); r != (api.Res{Found: true, Val: 22}) {
			t.Errorf("Get with %d: %v", val, r)
		}
		if r := b.Do(api.MapHas, 20, val); r != (api.Res{Found: true}) {
			t.Errorf("Has with %d: %v", val, r)
		}
		if r := b.Do(api.MapDel, 20, val); r != (api.Res{Found: true, Val: 22}) {
			t.Errorf("Del with %d: %v", val, r)
		}
		want(t, "behind them", b, 2, row(1)...)
	}
}

// TestRoomThatWasLeft: P13.2; behind Del of each key another goes into the room that it left, and just one.
func TestRoomThatWasLeft(t *testing.T) {
	for room := 1; room <= 16; room++ {
		for out := range room {
			for _, in := range []uint64{0, 15, 10*uint64(out+1) - 1, 10 * uint64(out+1), 10*uint64(out+1) + 1, 999, most} {
				ps := row(room)
				b := made(t, room, ps...)
				gone := ps[out]
				ps = slices.Delete(ps, out, out+1)
				if r := b.Do(api.MapDel, gone.Key, 0); r != (api.Res{Found: true, Val: gone.Val}) {
					t.Errorf("cap %d, Del of %d: %v", room, gone.Key, r)
				}
				want(t, "behind Del", b, room, ps...)
				if r := b.Do(api.MapPut, in, 5); r != (api.Res{}) {
					t.Errorf("cap %d, Put of %d behind Del of %d: %v", room, in, gone.Key, r)
				}
				ps = append(ps, api.Pair{Key: in, Val: 5})
				slices.SortFunc(ps, func(p, q api.Pair) int {
					if p.Key < q.Key {
						return -1
					}
					return 1
				})
				want(t, "behind Put", b, room, ps...)
				if r := b.Do(api.MapPut, 500, 5); r != (api.Res{E: api.ErrFull}) {
					t.Errorf("cap %d, Put of one more: %v", room, r)
				}
				want(t, "behind one more", b, room, ps...)
			}
		}
	}
}

// TestDelLeavesNothing: a key that comes back behind Del begins anew.
func TestDelLeavesNothing(t *testing.T) {
	b := made(t, 2, row(2)...)
	b.Do(api.MapDel, 10, 0)
	if r := b.Do(api.MapAdd, 10, 3); r != (api.Res{Val: 3}) {
		t.Errorf("Add behind Del: %v", r)
	}
	b.Do(api.MapDel, 10, 0)
	if r := b.Do(api.MapPut, 10, 4); r != (api.Res{}) {
		t.Errorf("Put behind Del: %v", r)
	}
	want(t, "behind them", b, 2, api.Pair{Key: 10, Val: 4}, api.Pair{Key: 20, Val: 22})
	for _, key := range []uint64{20, 10} {
		b.Do(api.MapDel, key, 0)
	}
	want(t, "emptied", b, 2)
	for _, key := range []uint64{20, 10} {
		if r := b.Do(api.MapDel, key, 0); r != (api.Res{}) {
			t.Errorf("Del of %d from an emptied one: %v", key, r)
		}
	}
}

// TestFill: P13.4; with no pair, with one key often, with keys that are there, past what there is room for.
func TestFill(t *testing.T) {
	two := row(2)
	for _, c := range []struct {
		name string
		room int
		was  []api.Pair
		ps   []api.Pair
		n    int
		is   []api.Pair
	}{
		{"nil into an empty one", 2, nil, nil, 0, nil},
		{"the empty list into one with room", 3, two, []api.Pair{}, 0, two},
		{"nil into a full one", 2, two, nil, 0, two},
		{"one", 1, nil, []api.Pair{{Key: 7, Val: 8}}, 1, []api.Pair{{Key: 7, Val: 8}}},
		{"the zero pair", 1, nil, []api.Pair{{}}, 1, []api.Pair{{}}},
		{"falling keys", 3, nil, []api.Pair{{Key: 3, Val: 1}, {Key: 2, Val: 2}, {Key: 1, Val: 3}}, 3, []api.Pair{{Key: 1, Val: 3}, {Key: 2, Val: 2}, {Key: 3, Val: 1}}},
		{"one key often: the last counts", 2, nil, []api.Pair{{Key: 7, Val: 8}, {Key: 7, Val: 9}, {Key: 7, Val: 1}}, 3, []api.Pair{{Key: 7, Val: 1}}},
		{"one pair often", 1, nil, []api.Pair{{Key: 7, Val: 8}, {Key: 7, Val: 8}, {Key: 7, Val: 8}}, 3, []api.Pair{{Key: 7, Val: 8}}},
		{"a key that is there, into a full one", 2, two, []api.Pair{{Key: 20, Val: 5}, {Key: 20, Val: 6}}, 2, []api.Pair{{Key: 10, Val: 11}, {Key: 20, Val: 6}}},
		{"values of 0 into a full one", 2, two, []api.Pair{{Key: 20}, {Key: 10}}, 2, []api.Pair{{Key: 10}, {Key: 20}}},
		{"a new key into a full one", 2, two, []api.Pair{{Key: 15, Val: 5}}, 0, two},
		{"past the room", 3, two, []api.Pair{{Key: 1, Val: 5}, {Key: 2, Val: 6}, {Key: 3, Val: 7}}, 1, []api.Pair{{Key: 1, Val: 5}, {Key: 10, Val: 11}, {Key: 20, Val: 22}}},
		{"what is refused doesn't end it", 2, two, []api.Pair{{Key: 1, Val: 5}, {Key: 10, Val: 6}, {Key: 2, Val: 7}, {Key: 20, Val: 8}, {Key: 1, Val: 9}}, 2, []api.Pair{{Key: 10, Val: 6}, {Key: 20, Val: 8}}},
		{"one that was refused, once more", 1, nil, []api.Pair{{Key: 1, Val: 5}, {Key: 2, Val: 6}, {Key: 1, Val: 7}, {Key: 2, Val: 8}}, 2, []api.Pair{{Key: 1, Val: 7}}},
		{"seventeen into the greatest", 16, nil, row(17), 16, row(16)},
	} {
		b := made(t, c.room, c.was...)
		if n := b.Fill(c.ps...); n != c.n {
			t.Errorf("%s: %d, want %d", c.name, n, c.n)
		}
		want(t, c.name, b, c.room, c.is...)
	}
	b := made(t, 2, two...)
	if n := b.Fill(); n != 0 {
		t.Errorf("Fill(): %d", n)
	}
	want(t, "Fill()", b, 2, two...)
}

// TestFillIsPuts: P13.4; one by one, as a list, and Put by hand are one.
func TestFillIsPuts(t *testing.T) {
	ps := []api.Pair{{Key: 5, Val: 1}, {Key: 4, Val: 2}, {Key: 5, Val: 3}, {Key: 6, Val: 4}, {Key: 4, Val: 5}, {Key: 7, Val: 6}}
	a, b, c := made(t, 2), made(t, 2), made(t, 2)
	n := a.Fill(ps[0], ps[1], ps[2], ps[3], ps[4], ps[5])
	m := 0
	for _, p := range ps {
		if b.Do(api.MapPut, p.Key, p.Val).E == api.OK {
			m++
		}
	}
	k := c.Fill(ps...)
	if n != 4 || m != 4 || k != 4 {
		t.Errorf("Fill: %d, %d, %d, want 4 each", n, m, k)
	}
	for _, x := range []*book.Book{a, b, c} {
		want(t, "filled", x, 2, api.Pair{Key: 4, Val: 5}, api.Pair{Key: 5, Val: 3})
	}
}

// TestFillWithMany: a list far longer than any book.
func TestFillWithMany(t *testing.T) {
	ps := make([]api.Pair, 200000)
	for i := range ps {
		ps[i] = api.Pair{Key: uint64(i % 50), Val: uint64(i)}
	}
	b := made(t, 16)
	if n := b.Fill(ps...); n != 16*4000 {
		t.Errorf("Fill: %d, want %d", n, 16*4000)
	}
	var is []api.Pair
	for i := range 16 {
		is = append(is, api.Pair{Key: uint64(i), Val: uint64(199950 + i)})
	}
	want(t, "filled with many", b, 16, is...)
}

// TestFillKeepsNothing: the pairs that were handed in stay as they were, their spare room too, and may be written to.
func TestFillKeepsNothing(t *testing.T) {
	for _, many := range []int{0, 1, 2, 5, 8} {
		room := []api.Pair{{Key: 9, Val: 1}, {Key: 3, Val: 2}, {Key: 7, Val: 3}, {Key: 3, Val: 4}, {Key: 1, Val: 5}, {Key: 8, Val: 6}, {Key: 2, Val: 7}, {Key: 9, Val: 8}}
		kept := slices.Clone(room)
		for _, cap := range []int{1, 3, 16} {
			b, w := made(t, cap), fresh(cap)
			if n, m := b.Fill(room[:many]...), w.fill(kept[:many]); n != m {
				t.Errorf("Fill with %d: %d, want %d", many, n, m)
			}
			b.Do(api.MapPut, 4, 1)
			w.do(api.MapPut, 4, 1)
			b.Do(api.MapAdd, 9, 1)
			w.do(api.MapAdd, 9, 1)
			b.Do(api.MapDel, 3, 1)
			w.do(api.MapDel, 3, 1)
			if !slices.Equal(room, kept) {
				t.Fatalf("the list and its spare room: %v, want %v", room, kept)
			}
			for i := range room {
				room[i] = api.Pair{Key: most, Val: most}
			}
			want(t, "behind writing to the list", b, cap, w.pairs()...)
			copy(room, kept)
		}
	}
}

// TestPairsRise: P13.3; whatever the order in which keys came and went: all orders of five keys, and of those that go again.
func TestPairsRise(t *testing.T) {
	keys := []uint64{0, 3, 1 << 40, 1 << 63, most}
	for _, in := range orders(5) {
		b, w := made(t, 5), fresh(5)
		for _, i := range in {
			b.Do(api.MapPut, keys[i], uint64(i))
			w.do(api.MapPut, keys[i], uint64(i))
			if got := b.Pairs(); !slices.Equal(got, w.pairs()) {
				t.Fatalf("order %v: %v, want %v", in, got, w.pairs())
			}
		}
		for _, i := range in {
			b.Do(api.MapDel, keys[4-i], 0)
			w.do(api.MapDel, keys[4-i], 0)
			if got := b.Pairs(); !slices.Equal(got, w.pairs()) {
				t.Fatalf("order %v, going: %v, want %v", in, got, w.pairs())
			}
		}
	}
}

// orders are all orders of so many things.
func orders(many int) [][]int {
	if many == 0 {
		return [][]int{nil}
	}
	var out [][]int
	for _, o := range orders(many - 1) {
		for at := range many {
			out = append(out, slices.Insert(slices.Clone(o), at, many-1))
		}
	}
	return out
}

// TestPairsIsNew: the list may be written to and appended to, up to the end of its room, without the book or another list changing, and stays when the book goes on.
func TestPairsIsNew(t *testing.T) {
	for many := range 17 {
		ps := row(many)
		b := made(t, 16, ps...)
		first, second := b.Pairs(), b.Pairs()
		whole := second[:cap(second)]
		for i := range whole {
			whole[i] = api.Pair{Key: 999, Val: 999}
		}
		second = append(second, api.Pair{Key: 1, Val: 1})
		second = append(second[:0], api.Pair{Key: 2, Val: 2})
		want(t, "behind writing to the answer", b, 16, ps...)
		if !slices.Equal(first, ps) {
			t.Errorf("two answers share memory: %v, want %v", first, ps)
		}
		third := append(b.Pairs(), api.Pair{Key: 5, Val: 5})
		b.Fill(api.Pair{Key: 5, Val: 6}, api.Pair{Key: 10, Val: 7}, api.Pair{Key: 800, Val: 8})
		b.Do(api.MapAdd, 20, 100)
		b.Do(api.MapDel, 10, 0)
		b.Do(api.MapDel, 800, 0)
		if !slices.Equal(first, ps) || !slices.Equal(third, append(slices.Clone(ps), api.Pair{Key: 5, Val: 5})) {
			t.Errorf("an answer went on with its book: %v, %v, want %v", first, third, ps)
		}
	}
}

// TestPairsBehindDel: in the room that deleted keys left behind no list shares anything either.
func TestPairsBehindDel(t *testing.T) {
	b := made(t, 16, row(16)...)
	for many := 16; many >= 0; many-- {
		list := b.Pairs()
		list = append(list, api.Pair{Key: 7, Val: 7})
		whole := list[:cap(list)]
		for i := range whole {
			whole[i] = api.Pair{Key: 3, Val: 3}
		}
		want(t, "on the way down", b, 16, row(many)...)
		b.Do(api.MapDel, uint64(10*many), 0)
	}
	b.Fill(row(3)...)
	want(t, "filled once more", b, 16, row(3)...)
}

// TestAskingChangesNothing: P13.2, P13.3; calls that do nothing, many times.
func TestAskingChangesNothing(t *testing.T) {
	b := made(t, 4, row(3)...)
	for range 100 {
		for _, key := range []uint64{0, 10, 11, 30, most} {
			b.Do(api.MapGet, key, 5)
			b.Do(api.MapHas, key, 5)
			b.Do(7, key, 5)
		}
		b.Do(api.MapDel, 5, 5)
		b.Pairs()
		b.Len()
		b.Cap()
		b.Fill()
	}
	want(t, "behind asking", b, 4, row(3)...)
}

// step is a call of a script: Do, or, where fills holds, Fill.
type step struct {
	op       api.MapOp
	key, val uint64
	fills    bool
	ps       []api.Pair
}

// answer is what a step was answered, and what can be read of the book behind it.
type answer struct {
	res   api.Res
	n     int
	pairs []api.Pair
	size  int
	room  int
}

// same tells whether two answers are equal, where nil and empty are one.
func same(a, b answer) bool {
	return a.res == b.res && a.n == b.n && slices.Equal(a.pairs, b.pairs) && a.size == b.size && a.room == b.room
}

// play does a step on a book.
func play(b *book.Book, s step) answer {
	var a answer
	if s.fills {
		a.n = b.Fill(s.ps...)
	} else {
		a.res = b.Do(s.op, s.key, s.val)
	}
	a.pairs, a.size, a.room = b.Pairs(), b.Len(), b.Cap()
	return a
}

// tell is what play must answer.
func tell(m *plain, s step) answer {
	var a answer
	if s.fills {
		a.n = m.fill(s.ps)
	} else {
		a.res = m.do(s.op, s.key, s.val)
	}
	a.pairs, a.size, a.room = m.pairs(), len(m.vals), m.room
	return a
}

// some is a number out of a few, so that keys come again, or any.
func some(r *rand.Rand) uint64 {
	switch r.Intn(8) {
	case 0:
		return edges()[r.Intn(len(edges()))]
	case 1:
		return r.Uint64()
	}
	return uint64(r.Intn(24))
}

// script is a random list of steps; most are lawful operations.
func script(r *rand.Rand, many int) []step {
	var out []step
	for range many {
		s := step{op: lawful()[r.Intn(5)], key: some(r), val: some(r)}
		switch r.Intn(20) {
		case 0:
			s.op = otherOps()[r.Intn(len(otherOps()))]
		case 1:
			s.fills = true
			for range r.Intn(6) {
				s.ps = append(s.ps, api.Pair{Key: some(r), Val: some(r)})
			}
		}
		out = append(out, s)
	}
	return out
}

// TestTold: P13.1 to P13.4; random scripts, held call by call against a plain map, for each cap.
func TestTold(t *testing.T) {
	r := rand.New(rand.NewSource(13))
	for range 40 {
		for room := 1; room <= 16; room++ {
			b, m := made(t, room), fresh(room)
			for i, s := range script(r, 150) {
				if got, w := play(b, s), tell(m, s); !same(got, w) {
					t.Fatalf("cap %d, step %d, %v: %v, want %v", room, i, s, got, w)
				}
			}
		}
	}
}

// TestTurns: P13.5; two books in turns, in any turns, answer as each alone, of one cap and of two.
func TestTurns(t *testing.T) {
	r := rand.New(rand.NewSource(135))
	for range 200 {
		rooms := [2]int{1 + r.Intn(16), 1 + r.Intn(16)}
		if r.Intn(2) == 0 {
			rooms[1] = rooms[0]
		}
		var scripts [2][]step
		var alone, turns [2][]answer
		var books [2]*book.Book
		for i := range 2 {
			scripts[i] = script(r, 60)
			b := made(t, rooms[i])
			for _, s := range scripts[i] {
				alone[i] = append(alone[i], play(b, s))
			}
			books[i] = made(t, rooms[i])
		}
		for len(turns[0])+len(turns[1]) < 120 {
			i := r.Intn(2)
			if at := len(turns[i]); at < 60 {
				turns[i] = append(turns[i], play(books[i], scripts[i][at]))
			}
		}
		for i := range 2 {
			if !slices.EqualFunc(alone[i], turns[i], same) {
				t.Fatalf("caps %v, book %d in turns: %v, want %v", rooms, i, turns[i], alone[i])
			}
		}
	}
}

// TestApart: P13.5; what is done to one book is seen in no other, of those made ahead of it and behind it.
func TestApart(t *testing.T) {
	a := made(t, 3, row(2)...)
	b := made(t, 3, row(3)...)
	c := made(t, 3, a.Pairs()...)
	a.Do(api.MapPut, 10, 1)
	a.Do(api.MapDel, 20, 0)
	want(t, "b behind what was done to a", b, 3, row(3)...)
	want(t, "c behind what was done to a", c, 3, row(2)...)
	b.Do(api.MapAdd, 30, 1)
	want(t, "a behind what was done to b", a, 3, api.Pair{Key: 10, Val: 1})
	if n := c.Fill(b.Pairs()...); n != 3 {
		t.Errorf("Fill of c by b's pairs: %d", n)
	}
	c.Do(api.MapPut, 10, 500)
	c.Do(api.MapDel, 20, 0)
	want(t, "b behind what was done to c", b, 3, api.Pair{Key: 10, Val: 11}, api.Pair{Key: 20, Val: 22}, api.Pair{Key: 30, Val: 34})
	want(t, "a behind what was done to c", a, 3, api.Pair{Key: 10, Val: 1})
	if r := a.Do(api.MapPut, 70, 1); r != (api.Res{}) {
		t.Errorf("a has room where others are full: %v", r)
	}
	want(t, "a new one", made(t, 3), 3)
}

// TestAnswersHangOnCallsAlone: one script on two books, with calls between that change nothing on the one: the same answers.
func TestAnswersHangOnCallsAlone(t *testing.T) {
	r := rand.New(rand.NewSource(7))
	for room := 1; room <= 16; room++ {
		a, b := made(t, room), made(t, room)
		for _, s := range script(r, 200) {
			for range r.Intn(4) {
				b.Do(api.MapGet, some(r), some(r))
				b.Do(api.MapHas, some(r), some(r))
				b.Do(9, some(r), some(r))
				b.Fill()
			}
			if got, w := play(b, s), play(a, s); !same(got, w) {
				t.Fatalf("cap %d, %v: %v, want %v", room, s, got, w)
			}
		}
	}
}

// FuzzTold: bytes read as a cap and steps, held against a plain map.
func FuzzTold(f *testing.F) {
	f.Add([]byte{2, 2, 5, 50, 2, 5, 51, 4, 3, 4, 2, 9, 1, 4, 9, 1, 4, 3, 1, 1, 5, 0, 0, 5, 0, 0, 6, 0, 5, 5, 0, 3, 5, 0, 3, 5, 0})
	f.Add([]byte{1, 2, 0, 0, 4, 0, 255, 3, 0, 0, 2, 255, 255})
	f.Add([]byte{16, 2, 1, 1, 2, 2, 2, 10, 3, 3, 3, 1, 1})
	f.Fuzz(func(t *testing.T, data []byte) {
		if len(data) == 0 {
			return
		}
		room := int(int8(data[0]))
		b, e := book.New(room)
		if room < 1 || room > 16 {
			if b != nil || e != api.ErrArg {
				t.Fatalf("New(%d): %v, %v", room, b, e)
			}
			return
		}
		m := fresh(room)
		for at := 1; at+3 <= len(data); at += 3 {
			s := step{op: api.MapOp(int8(data[at])), key: wide(data[at+1]), val: wide(data[at+2])}
			if s.op >= 10 {
				s.fills = true
				for _, c := range data[at:min(at+20, len(data))] {
					s.ps = append(s.ps, api.Pair{Key: wide(c), Val: wide(c + 7)})
				}
			}
			if got, w := play(b, s), tell(m, s); !same(got, w) {
				t.Fatalf("cap %d, step at %d, %v: %v, want %v", room, at, s, got, w)
			}
		}
	})
}

// wide is a number out of a byte: small ones as they are, others spread over all 64 bits.
func wide(c byte) uint64 {
	if c < 64 {
		return uint64(c)
	}
	return binary.BigEndian.Uint64([]byte{c, 0, 0, 0, 0, 0, 0, c}) - 64
}
