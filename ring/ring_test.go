package ring_test

import (
	"math"
	"slices"
	"testing"

	"tappet/api"
	"tappet/ring"
)

const most = uint64(math.MaxUint64)

// ev is an event with both fields of one number, as the chapter's examples have them.
func ev(n uint64) api.Event {
	return api.Event{A: n, B: n}
}

// queued is an event that waits by a number.
func queued(n int, e api.Event) api.Queued {
	return api.Queued{N: n, Event: e}
}

// row are so many events, all unlike.
func row(many int) []api.Event {
	var es []api.Event
	for i := range many {
		es = append(es, api.Event{A: uint64(10 + i), B: uint64(1000 - i)})
	}
	return es
}

// numbered are events that wait by numbers rising by one from the first.
func numbered(first int, es ...api.Event) []api.Queued {
	var qs []api.Queued
	for i, e := range es {
		qs = append(qs, queued(first+i, e))
	}
	return qs
}

// made is a new ring with Numbers of its own, in which these events wait by 1, 2, 3 ..
func made(t *testing.T, room int, es ...api.Event) *ring.Ring {
	t.Helper()
	return madeWith(t, room, &ring.Numbers{}, es...)
}

// madeWith is a new ring of these Numbers, which accepted these events.
func madeWith(t *testing.T, room int, n *ring.Numbers, es ...api.Event) *ring.Ring {
	t.Helper()
	r, e := ring.New(room, n)
	if r == nil || e != api.OK {
		t.Fatalf("New(%d): %v, %v", room, r, e)
	}
	for _, event := range es {
		if k, e := r.Accept(event); k < 1 || e != api.OK {
			t.Fatalf("room %d: Accept(%v): %d, %v", room, event, k, e)
		}
	}
	return r
}

// want fails if what can be read of a ring isn't these counts and these events.
func want(t *testing.T, when string, r *ring.Ring, c api.RingCounts, qs ...api.Queued) {
	t.Helper()
	c.Queued = len(qs)
	if got := r.Counts(); got != c {
		t.Errorf("%s: Counts %+v, want %+v", when, got, c)
	}
	if got := r.Waiting(); !slices.Equal(got, qs) {
		t.Errorf("%s: Waiting %v, want %v", when, got, qs)
	}
}

// accepts fails if Accept isn't answered so.
func accepts(t *testing.T, r *ring.Ring, event api.Event, n int, w api.Errno) {
	t.Helper()
	if k, e := r.Accept(event); k != n || e != w {
		t.Errorf("Accept(%v): %d, %v, want %d, %v", event, k, e, n, w)
	}
}

// takes fails if Take doesn't answer this event.
func takes(t *testing.T, r *ring.Ring, q api.Queued) {
	t.Helper()
	if got, ok := r.Take(); got != q || !ok {
		t.Errorf("Take: %v, %t, want %v", got, ok, q)
	}
}

// takesNone fails if Take answers an event.
func takesNone(t *testing.T, r *ring.Ring) {
	t.Helper()
	if got, ok := r.Take(); got != (api.Queued{}) || ok {
		t.Errorf("Take: %v, %t, want none", got, ok)
	}
}

// shuts fails if Shut doesn't answer these events.
func shuts(t *testing.T, r *ring.Ring, qs ...api.Queued) {
	t.Helper()
	if got := r.Shut(); !slices.Equal(got, qs) {
		t.Errorf("Shut: %v, want %v", got, qs)
	}
}

// offers fails if Offer isn't answered so.
func offers(t *testing.T, r *ring.Ring, es []api.Event, ns ...int) {
	t.Helper()
	if got := r.Offer(es...); !slices.Equal(got, ns) {
		t.Errorf("Offer(%v): %v, want %v", es, got, ns)
	}
}

// TestExamples: the chapter's table.
func TestExamples(t *testing.T) {
	n := &ring.Numbers{}
	r := madeWith(t, 2, n)
	accepts(t, r, ev(1), 1, api.OK)
	accepts(t, r, ev(2), 2, api.OK)
	accepts(t, r, ev(3), 0, api.ErrFull)
	takes(t, r, queued(1, ev(1)))
	accepts(t, r, ev(4), 3, api.OK)
	if got := r.Counts(); got != (api.RingCounts{Accepted: 3, Refused: 1, Taken: 1, Dropped: 0, Queued: 2}) {
		t.Errorf("Counts: %+v", got)
	}
	shuts(t, r, queued(2, ev(2)), queued(3, ev(4)))
	accepts(t, r, ev(5), 0, api.ErrClosed)
	takesNone(t, r)
	shuts(t, r)
	for _, room := range []int{0, 17} {
		if r, e := ring.New(room, n); r != nil || e != api.ErrArg {
			t.Errorf("New(%d): %v, %v", room, r, e)
		}
	}
	if r, e := ring.New(1, nil); r != nil || e != api.ErrArg {
		t.Errorf("New(1, nil): %v, %v", r, e)
	}
}

// rooms are those that New takes, those beside them, far ones, and such that are lawful modulo 2^8, 2^16 or 2^32.
func rooms() []int {
	rs := []int{math.MinInt, math.MinInt + 1, math.MinInt + 16, -1 << 32, -1<<32 + 4, math.MinInt32, -65535,
		65537, math.MaxInt32, 1 << 32, 1<<32 + 1, 1<<32 + 16, math.MaxInt - 1, math.MaxInt}
	for room := -300; room <= 300; room++ {
		rs = append(rs, room)
	}
	return rs
}

// used is a Numbers that gave so many.
func used(many int) *ring.Numbers {
	n := &ring.Numbers{}
	for range many {
		n.Next()
	}
	return n
}

// TestNew: P16.1; just the rooms 1 to 16, with Numbers that are fresh and that were used, and never without; a refused New draws no number.
func TestNew(t *testing.T) {
	for _, room := range rooms() {
		if r, e := ring.New(room, nil); r != nil || e != api.ErrArg {
			t.Errorf("New(%d, nil): %v, %v", room, r, e)
		}
		for _, many := range []int{0, 1, 5} {
			n := used(many)
			r, e := ring.New(room, n)
			if room < 1 || room > 16 {
				if r != nil || e != api.ErrArg {
					t.Errorf("New(%d): %v, %v", room, r, e)
				}
			} else if r == nil || e != api.OK {
				t.Fatalf("New(%d): %v, %v", room, r, e)
			} else {
				want(t, "a new one", r, api.RingCounts{})
				takesNone(t, r)
			}
			if got := n.Next(); got != many+1 {
				t.Errorf("Next behind New(%d): %d, want %d", room, got, many+1)
			}
		}
	}
}

// TestNewIsOpen: P16.1; a new ring accepts, though others of its Numbers are full or shut, and two News answer two rings.
func TestNewIsOpen(t *testing.T) {
	n := &ring.Numbers{}
	full, shut := madeWith(t, 1, n, ev(1)), madeWith(t, 1, n, ev(2))
	shut.Shut()
	r := madeWith(t, 1, n)
	if r == full || r == shut {
		t.Error("New answers one ring twice")
	}
	want(t, "a new one", r, api.RingCounts{})
	accepts(t, r, ev(3), 3, api.OK)
	accepts(t, full, ev(4), 0, api.ErrFull)
	accepts(t, shut, ev(5), 0, api.ErrClosed)
}

// TestRoom: P16.1, P16.2; each room is room for just so many.
func TestRoom(t *testing.T) {
	for room := 1; room <= 16; room++ {
		r, es := made(t, room), row(room+3)
		for i, e := range es[:room] {
			want(t, "room left", r, api.RingCounts{Accepted: i}, numbered(1, es[:i]...)...)
			accepts(t, r, e, i+1, api.OK)
		}
		for i, e := range es[room:] {
			want(t, "full", r, api.RingCounts{Accepted: room, Refused: i}, numbered(1, es[:room]...)...)
			accepts(t, r, e, 0, api.ErrFull)
		}
	}
}

// TestNext: P16.1; 1, 2, 3 .. from the zero value on, however it was come by.
func TestNext(t *testing.T) {
	var plain ring.Numbers
	for _, n := range []*ring.Numbers{{}, new(ring.Numbers), &plain} {
		for i := 1; i <= 1000; i++ {
			if got := n.Next(); got != i {
				t.Fatalf("Next: %d, want %d", got, i)
			}
		}
	}
}

// TestNextBesideRings: P16.1, P16.2; Next goes on behind what rings drew, and rings behind what Next gave.
func TestNextBesideRings(t *testing.T) {
	n := used(4)
	r := madeWith(t, 3, n)
	accepts(t, r, ev(1), 5, api.OK)
	accepts(t, r, ev(2), 6, api.OK)
	if got := n.Next(); got != 7 {
		t.Errorf("Next: %d, want 7", got)
	}
	accepts(t, r, ev(3), 8, api.OK)
	accepts(t, r, ev(4), 0, api.ErrFull)
	if got := n.Next(); got != 9 {
		t.Errorf("Next behind a refusal: %d, want 9", got)
	}
	want(t, "behind them", r, api.RingCounts{Accepted: 3, Refused: 1}, queued(5, ev(1)), queued(6, ev(2)), queued(8, ev(3)))
}

// TestAccept: P16.2; into a ring that is empty, has room, is full, is shut, was full and is shut.
func TestAccept(t *testing.T) {
	es := row(4)
	empty := made(t, 3)
	accepts(t, empty, es[0], 1, api.OK)
	want(t, "empty", empty, api.RingCounts{Accepted: 1}, queued(1, es[0]))

	some := made(t, 3, es[:2]...)
	accepts(t, some, es[2], 3, api.OK)
	want(t, "room", some, api.RingCounts{Accepted: 3}, numbered(1, es[:3]...)...)

	full := made(t, 3, es[:3]...)
	accepts(t, full, es[3], 0, api.ErrFull)
	want(t, "full", full, api.RingCounts{Accepted: 3, Refused: 1}, numbered(1, es[:3]...)...)

	shut := made(t, 3)
	shuts(t, shut)
	accepts(t, shut, es[0], 0, api.ErrClosed)
	want(t, "shut", shut, api.RingCounts{})

	both := made(t, 3, es[:3]...)
	accepts(t, both, es[3], 0, api.ErrFull)
	shuts(t, both, numbered(1, es[:3]...)...)
	for range 5 {
		accepts(t, both, es[3], 0, api.ErrClosed)
	}
	want(t, "full and shut", both, api.RingCounts{Accepted: 3, Refused: 1, Dropped: 3})
}

// TestRefusedDrawsNone: P16.2; a refused event takes no number, whether the ring is full or shut, and however often it is refused.
func TestRefusedDrawsNone(t *testing.T) {
	n := &ring.Numbers{}
	full, shut, free := madeWith(t, 1, n, ev(1)), madeWith(t, 1, n), madeWith(t, 16, n)
	shut.Shut()
	for i := 2; i <= 12; i++ {
		accepts(t, full, ev(7), 0, api.ErrFull)
		accepts(t, shut, ev(7), 0, api.ErrClosed)
		offers(t, full, row(3), 0, 0, 0)
		offers(t, shut, row(3), 0, 0, 0)
		accepts(t, free, ev(8), i, api.OK)
	}
	want(t, "full", full, api.RingCounts{Accepted: 1, Refused: 44}, queued(1, ev(1)))
	want(t, "shut", shut, api.RingCounts{})
	takes(t, full, queued(1, ev(1)))
	accepts(t, full, ev(9), 13, api.OK)
}

// TestRefusedStays: P16.5; what was refused stays counted, behind Take and behind Shut, and ErrClosed isn't counted.
func TestRefusedStays(t *testing.T) {
	r := made(t, 1, ev(1))
	offers(t, r, row(3), 0, 0, 0)
	takes(t, r, queued(1, ev(1)))
	want(t, "behind Take", r, api.RingCounts{Accepted: 1, Refused: 3, Taken: 1})
	offers(t, r, row(2), 2, 0)
	want(t, "behind Offer", r, api.RingCounts{Accepted: 2, Refused: 4, Taken: 1}, queued(2, row(2)[0]))
	shuts(t, r, queued(2, row(2)[0]))
	offers(t, r, row(2), 0, 0)
	want(t, "behind Shut", r, api.RingCounts{Accepted: 2, Refused: 4, Taken: 1, Dropped: 1})
}

// TestOffer: P16.2; with none, as many as there is room for, more, and into a ring that has some, is full or is shut.
func TestOffer(t *testing.T) {
	es := row(20)
	none := made(t, 2)
	offers(t, none, nil)
	offers(t, none, []api.Event{})
	if got := none.Offer(); len(got) != 0 {
		t.Errorf("Offer(): %v", got)
	}
	want(t, "none", none, api.RingCounts{})

	one := made(t, 2)
	if got := one.Offer(es[0]); !slices.Equal(got, []int{1}) {
		t.Errorf("Offer of one: %v", got)
	}
	want(t, "one", one, api.RingCounts{Accepted: 1}, queued(1, es[0]))

	all := made(t, 4)
	offers(t, all, es[:4], 1, 2, 3, 4)
	want(t, "as many", all, api.RingCounts{Accepted: 4}, numbered(1, es[:4]...)...)
	offers(t, all, nil)
	want(t, "none into a full one", all, api.RingCounts{Accepted: 4}, numbered(1, es[:4]...)...)

	more := made(t, 4)
	offers(t, more, es[:7], 1, 2, 3, 4, 0, 0, 0)
	want(t, "more", more, api.RingCounts{Accepted: 4, Refused: 3}, numbered(1, es[:4]...)...)

	some := made(t, 4, es[10:12]...)
	takes(t, some, queued(1, es[10]))
	offers(t, some, es[:5], 3, 4, 5, 0, 0)
	want(t, "some", some, api.RingCounts{Accepted: 5, Refused: 2, Taken: 1}, append(numbered(2, es[11]), numbered(3, es[:3]...)...)...)

	shut := made(t, 4, es[:2]...)
	shuts(t, shut, numbered(1, es[:2]...)...)
	offers(t, shut, es[:3], 0, 0, 0)
	offers(t, shut, nil)
	want(t, "shut", shut, api.RingCounts{Accepted: 2, Dropped: 2})
}

// TestOfferIsAccepts: P16.2, rule 9; many at once and one by one are the same, also with far more than there is room for.
func TestOfferIsAccepts(t *testing.T) {
	for room := 1; room <= 16; room++ {
		for many := range 40 {
			a, b, es := made(t, room), made(t, room), row(many)
			var ns []int
			for _, e := range es {
				n, _ := a.Accept(e)
				ns = append(ns, n)
			}
			offers(t, b, es, ns...)
			want(t, "offered", b, a.Counts(), a.Waiting()...)
		}
	}
	r, ns := made(t, 16), make([]int, 100000)
	for i := range 16 {
		ns[i] = i + 1
	}
	if got := r.Offer(row(100000)...); !slices.Equal(got, ns) {
		t.Error("Offer of 100000 is answered otherwise")
	}
	want(t, "of 100000", r, api.RingCounts{Accepted: 16, Refused: 100000 - 16}, numbered(1, row(16)...)...)
}

// TestTake: P16.3; of a ring that is empty, has one, is full, is shut, and behind each of them.
func TestTake(t *testing.T) {
	es := row(4)
	empty := made(t, 2)
	takesNone(t, empty)
	want(t, "empty", empty, api.RingCounts{})
	accepts(t, empty, es[0], 1, api.OK)
	takes(t, empty, queued(1, es[0]))
	takesNone(t, empty)
	takesNone(t, empty)
	want(t, "one", empty, api.RingCounts{Accepted: 1, Taken: 1})

	full := made(t, 3, es[:3]...)
	takes(t, full, queued(1, es[0]))
	want(t, "full", full, api.RingCounts{Accepted: 3, Taken: 1}, numbered(2, es[1:3]...)...)
	accepts(t, full, es[3], 4, api.OK)
	accepts(t, full, es[3], 0, api.ErrFull)
	want(t, "full again", full, api.RingCounts{Accepted: 4, Refused: 1, Taken: 1}, numbered(2, es[1:4]...)...)
	for i := 1; i < 4; i++ {
		takes(t, full, queued(i+1, es[i]))
		want(t, "less and less", full, api.RingCounts{Accepted: 4, Refused: 1, Taken: i + 1}, numbered(i+2, es[i+1:]...)...)
	}
	takesNone(t, full)

	shut := made(t, 3, es[:3]...)
	takes(t, shut, queued(1, es[0]))
	shuts(t, shut, numbered(2, es[1:3]...)...)
	takesNone(t, shut)
	takesNone(t, shut)
	want(t, "shut", shut, api.RingCounts{Accepted: 3, Taken: 1, Dropped: 2})
}

// TestShut: P16.4; of a ring that is empty, was emptied, has some, is full, is shut; for ever.
func TestShut(t *testing.T) {
	for room := 1; room <= 16; room++ {
		for many := 0; many <= room; many++ {
			for gone := 0; gone <= many; gone++ {
				es := row(many)
				r := made(t, room, es...)
				for i := range gone {
					takes(t, r, queued(i+1, es[i]))
				}
				w := api.RingCounts{Accepted: many, Taken: gone, Dropped: many - gone}
				shuts(t, r, numbered(gone+1, es[gone:]...)...)
				want(t, "shut", r, w)
				for range 3 {
					shuts(t, r)
					accepts(t, r, ev(1), 0, api.ErrClosed)
					takesNone(t, r)
					offers(t, r, row(2), 0, 0)
					want(t, "shut for ever", r, w)
				}
			}
		}
	}
}

// TestShutAlone: P16.4; a ring that is shut shuts no other of its Numbers.
func TestShutAlone(t *testing.T) {
	n := &ring.Numbers{}
	a, b := madeWith(t, 2, n, ev(1)), madeWith(t, 2, n, ev(2))
	shuts(t, a, queued(1, ev(1)))
	want(t, "the other", b, api.RingCounts{Accepted: 1}, queued(2, ev(2)))
	accepts(t, b, ev(3), 3, api.OK)
	takes(t, b, queued(2, ev(2)))
	shuts(t, b, queued(3, ev(3)))
}

// TestEvents: P16.2, P16.3, P16.4; events of equal and of unlike fields, at their ends, come out as they went in: none is taken for another, and none for nothing.
func TestEvents(t *testing.T) {
	es := []api.Event{{}, {}, {A: most, B: most}, {A: most, B: most}, {A: most}, {B: most}, {A: 1}, {B: 1},
		{A: 1, B: 2}, {A: 2, B: 1}, {A: 1 << 63, B: 1<<63 - 1}, {A: 1 << 32, B: 1<<32 + 1}, {A: 1, B: 1}, {A: 1, B: 1}, {}, {A: math.MaxInt64}}
	r := made(t, 16, es...)
	want(t, "all wait", r, api.RingCounts{Accepted: 16}, numbered(1, es...)...)
	for i, e := range es[:8] {
		takes(t, r, queued(i+1, e))
	}
	shuts(t, r, numbered(9, es[8:]...)...)
	one := made(t, 1)
	for i, e := range es {
		accepts(t, one, e, i+1, api.OK)
		accepts(t, one, e, 0, api.ErrFull)
		want(t, "one", one, api.RingCounts{Accepted: i + 1, Refused: i + 1, Taken: i}, queued(i+1, e))
		takes(t, one, queued(i+1, e))
	}
}

// TestZeroEventWaits: P16.2; an event of noughts waits like any other, and one that was taken is no longer there.
func TestZeroEventWaits(t *testing.T) {
	r := made(t, 2)
	offers(t, r, make([]api.Event, 4), 1, 2, 0, 0)
	takes(t, r, queued(1, api.Event{}))
	accepts(t, r, api.Event{}, 3, api.OK)
	shuts(t, r, queued(2, api.Event{}), queued(3, api.Event{}))
}

// TestFarMoreThanRoom: P16.2, P16.3, P16.5; for each room thousands of events pass through, at every fill, and keep their order.
func TestFarMoreThanRoom(t *testing.T) {
	for room := 1; room <= 16; room++ {
		for fill := 1; fill <= room; fill++ {
			r := made(t, room, row(fill)...)
			for i := 1; i <= 3000; i++ {
				q, ok := r.Take()
				if !ok || q.N != i || i > fill && q.Event != ev(uint64(i)) {
					t.Fatalf("room %d, fill %d: Take %d: %v, %t", room, fill, i, q, ok)
				}
				if n, e := r.Accept(ev(uint64(i + fill))); n != i+fill || e != api.OK {
					t.Fatalf("room %d, fill %d: Accept %d: %d, %v", room, fill, i, n, e)
				}
			}
			if got := r.Counts(); got != (api.RingCounts{Accepted: 3000 + fill, Taken: 3000, Queued: fill}) {
				t.Fatalf("room %d, fill %d: %+v", room, fill, got)
			}
		}
	}
}

// TestFillAndEmpty: P16.2, P16.3; rings that are filled and emptied over and over answer alike each time.
func TestFillAndEmpty(t *testing.T) {
	for room := 1; room <= 16; room++ {
		r, es := made(t, room), row(room+1)
		for round := range 100 {
			for i, e := range es[:room] {
				accepts(t, r, e, round*room+i+1, api.OK)
			}
			accepts(t, r, es[room], 0, api.ErrFull)
			for i, e := range es[:room] {
				takes(t, r, queued(round*room+i+1, e))
			}
			takesNone(t, r)
			want(t, "emptied", r, api.RingCounts{Accepted: (round + 1) * room, Refused: round + 1, Taken: (round + 1) * room})
		}
	}
}

// TestShared: P16.2; numbers rise by one over all rings that share them, whichever accepts, and each ring's own events keep their order.
func TestShared(t *testing.T) {
	n := &ring.Numbers{}
	var rs []*ring.Ring
	for room := 1; room <= 16; room++ {
		rs = append(rs, madeWith(t, room, n))
	}
	last := 0
	for i := range 2000 {
		r := rs[i*i%16]
		if i%3 == 0 {
			r.Take()
		}
		k, e := r.Accept(ev(uint64(i)))
		if e == api.OK {
			last++
		}
		if e == api.OK && k != last || e != api.OK && (k != 0 || e != api.ErrFull) {
			t.Fatalf("step %d: %d, %v, want %d", i, k, e, last)
		}
	}
	total := 0
	for _, r := range rs {
		total += r.Counts().Accepted
		if !slices.IsSortedFunc(r.Waiting(), func(a, b api.Queued) int { return a.N - b.N }) {
			t.Errorf("out of order: %v", r.Waiting())
		}
	}
	if total != last || n.Next() != last+1 {
		t.Errorf("accepted %d, numbers given %d", total, last)
	}
}

// TestCountsAlone: P16.5; rings of one Numbers count each its own.
func TestCountsAlone(t *testing.T) {
	n := &ring.Numbers{}
	a, b := madeWith(t, 1, n), madeWith(t, 2, n)
	offers(t, a, row(3), 1, 0, 0)
	offers(t, b, row(3), 2, 3, 0)
	takes(t, b, queued(2, row(3)[0]))
	want(t, "the one", a, api.RingCounts{Accepted: 1, Refused: 2}, queued(1, row(3)[0]))
	want(t, "the other", b, api.RingCounts{Accepted: 2, Refused: 1, Taken: 1}, queued(3, row(3)[1]))
	shuts(t, a, queued(1, row(3)[0]))
	want(t, "the one, shut", a, api.RingCounts{Accepted: 1, Refused: 2, Dropped: 1})
	want(t, "the other, open", b, api.RingCounts{Accepted: 2, Refused: 1, Taken: 1}, queued(3, row(3)[1]))
}

// TestUnlike: P16.6; rings of unlike Numbers each count and number from 1 on.
func TestUnlike(t *testing.T) {
	a, b := made(t, 2), made(t, 2)
	offers(t, a, row(3), 1, 2, 0)
	want(t, "the other", b, api.RingCounts{})
	takesNone(t, b)
	offers(t, b, row(1), 1)
	shuts(t, a, numbered(1, row(2)...)...)
	accepts(t, b, ev(7), 2, api.OK)
	want(t, "the other", b, api.RingCounts{Accepted: 2}, queued(1, row(1)[0]), queued(2, ev(7)))
	want(t, "the one", a, api.RingCounts{Accepted: 2, Refused: 1, Dropped: 2})
}

// spoil writes over a list, its spare room included.
func spoil[T any](list []T, with T) {
	all := list[:cap(list)]
	for i := range all {
		all[i] = with
	}
	_ = append(list, with)
}

// TestAnswersAreNew: P16.6; what Waiting, Offer and Shut answered may be written to and appended to, at every fill, also where events were taken ahead of it.
func TestAnswersAreNew(t *testing.T) {
	bad := queued(-1, ev(666))
	for room := 1; room <= 16; room++ {
		for many := 0; many <= room; many++ {
			for gone := 0; gone <= many; gone++ {
				es := row(many)
				r := made(t, room)
				spoil(r.Offer(es...), -1)
				for i := range gone {
					takes(t, r, queued(i+1, es[i]))
				}
				spoil(r.Waiting(), bad)
				left, c := numbered(gone+1, es[gone:]...), api.RingCounts{Accepted: many, Taken: gone}
				want(t, "spoilt", r, c, left...)
				for i := many; i < many+gone; i++ {
					accepts(t, r, ev(uint64(i)), i+1, api.OK)
					left = append(left, queued(i+1, ev(uint64(i))))
					spoil(r.Waiting(), bad)
				}
				c.Accepted += gone
				want(t, "spoilt again", r, c, left...)
				shut := r.Shut()
				if !slices.Equal(shut, left) {
					t.Errorf("Shut: %v, want %v", shut, left)
				}
				spoil(shut, bad)
				c.Dropped = many
				want(t, "shut and spoilt", r, c)
				shuts(t, r)
			}
		}
	}
}

// TestAnswersStay: P16.6; what was answered stays as it was, whatever is done to the ring and to other answers.
func TestAnswersStay(t *testing.T) {
	es, bad := row(12), queued(-1, ev(666))
	r := made(t, 4)
	ns := r.Offer(es[:3]...)
	first, second := r.Waiting(), r.Waiting()
	spoil(second, bad)
	takes(t, r, queued(1, es[0]))
	more := r.Offer(es[3:6]...)
	third := r.Waiting()
	takes(t, r, queued(2, es[1]))
	shut, behind := r.Shut(), r.Waiting()
	r.Offer(es...)
	spoil(r.Shut(), bad)
	spoil(behind, bad)
	if !slices.Equal(first, numbered(1, es[:3]...)) || !slices.Equal(third, numbered(2, es[1:5]...)) || !slices.Equal(shut, numbered(3, es[2:5]...)) {
		t.Errorf("answers changed: %v, %v, %v", first, third, shut)
	}
	if !slices.Equal(ns, []int{1, 2, 3}) || !slices.Equal(more, []int{4, 5, 0}) {
		t.Errorf("numbers changed: %v, %v", ns, more)
	}
	spoil(third, bad)
	if !slices.Equal(shut, numbered(3, es[2:5]...)) {
		t.Errorf("Shut and Waiting share memory: %v", shut)
	}
}

// TestOfferKeepsNothing: P16.6, rule 5; what is handed to Offer stays as it was, its spare room included, and isn't kept.
func TestOfferKeepsNothing(t *testing.T) {
	for _, room := range []int{1, 2, 5, 16} {
		whole := row(12)
		es, r := whole[2:7:9], made(t, room)
		r.Offer(es...)
		r.Take()
		r.Offer(es...)
		if !slices.Equal(whole, row(12)) {
			t.Fatalf("room %d: Offer changed what it was handed: %v", room, whole)
		}
		was := r.Waiting()
		spoil(es, ev(666))
		if got := r.Waiting(); !slices.Equal(got, was) {
			t.Errorf("room %d: Offer kept what it was handed: %v, want %v", room, got, was)
		}
		r.Shut()
		r.Offer(es...)
		r.Offer(es[:0]...)
		if whole[0] != row(12)[0] || whole[11] != row(12)[11] || es[0] != ev(666) {
			t.Errorf("room %d: changed at last: %v", room, whole)
		}
	}
}

// TestAskingChangesNothing: P16.5; Waiting, Counts, Take of none and Offer of none change nothing.
func TestAskingChangesNothing(t *testing.T) {
	n := &ring.Numbers{}
	empty, some := madeWith(t, 3, n), madeWith(t, 3, n, row(2)...)
	for range 50 {
		empty.Waiting()
		empty.Counts()
		empty.Offer()
		takesNone(t, empty)
		some.Waiting()
		some.Counts()
		some.Offer()
	}
	want(t, "empty", empty, api.RingCounts{})
	want(t, "some", some, api.RingCounts{Accepted: 2}, numbered(1, row(2)...)...)
	accepts(t, empty, ev(1), 3, api.OK)
}
