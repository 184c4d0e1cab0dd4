package scratch_test

import (
	"math"
	"slices"
	"testing"

	"tappet/api"
	"tappet/scratch"
)

const most = uint64(math.MaxUint64)

// seen is all that can be read of a scratch.
type seen struct {
	words, counts [16]uint64
}

// look reads all words and counters.
func look(t *testing.T, s *scratch.Scratch) seen {
	t.Helper()
	var got seen
	for i := range 16 {
		var e api.Errno
		if got.words[i], e = s.Load(i); e != api.OK {
			t.Fatalf("Load(%d): %v", i, e)
		}
		if got.counts[i], e = s.Count(i); e != api.OK {
			t.Fatalf("Count(%d): %v", i, e)
		}
	}
	return got
}

// want fails if the scratch isn't as told.
func want(t *testing.T, when string, s *scratch.Scratch, w seen) {
	t.Helper()
	if got := look(t, s); got != w {
		t.Errorf("%s: %v, want %v", when, got, w)
	}
}

// full is a scratch with another number in each word and each counter, none of them 0, and what can be read of it.
func full(t *testing.T) (*scratch.Scratch, seen) {
	t.Helper()
	s := scratch.New()
	var w seen
	for i := range 16 {
		w.words[i], w.counts[i] = 100+uint64(i), 200+uint64(i)
		if e := s.Store(i, w.words[i]); e != api.OK {
			t.Fatalf("Store(%d): %v", i, e)
		}
	}
	s.Raise(w.counts[:]...)
	want(t, "full", s, w)
	return s, w
}

// outside are numbers of no word and no slot: just beside the ends, far off, and such that are right numbers modulo 2^4, 2^8, 2^16 or 2^32.
func outside() []int {
	return []int{-1, -2, -15, -16, -17, -256, -65536, math.MinInt32, -1 << 32, math.MinInt, math.MinInt + 3,
		16, 17, 18, 31, 32, 255, 256, 259, 65536, 65539, math.MaxInt32, 1 << 32, 1<<32 + 3, math.MaxInt - 15, math.MaxInt}
}

// TestExamples: the chapter's.
func TestExamples(t *testing.T) {
	s := scratch.New()
	if e := s.Store(3, 7); e != api.OK {
		t.Errorf("Store(3, 7): %v", e)
	}
	if n, e := s.Load(3); n != 7 || e != api.OK {
		t.Errorf("Load(3): %d, %v", n, e)
	}
	if n, e := s.Load(16); n != 0 || e != api.ErrBound {
		t.Errorf("Load(16): %d, %v", n, e)
	}
	if e := s.Store(-1, 1); e != api.ErrBound {
		t.Errorf("Store(-1, 1): %v", e)
	}
	for _, w := range []uint64{1, 2} {
		if n, e := s.Mark(0); n != w || e != api.OK {
			t.Errorf("Mark(0): %d, %v, want %d", n, e, w)
		}
	}
	s.Wipe()
	if n, e := s.Load(3); n != 0 || e != api.OK {
		t.Errorf("Load(3) behind Wipe: %d, %v", n, e)
	}
	if n, e := s.Count(0); n != 2 || e != api.OK {
		t.Errorf("Count(0) behind Wipe: %d, %v", n, e)
	}
	s.Raise(1, 0, 5)
	for slot, w := range []uint64{3, 0, 5} {
		if n, e := s.Count(slot); n != w || e != api.OK {
			t.Errorf("Count(%d): %d, %v, want %d", slot, n, e, w)
		}
	}
	if got := scratch.Totals(s, nil, s); !slices.Equal(got, []uint64{6, 0, 10, 0, 0, 0, 0, 0, 0, 0, 0, 0, 0, 0, 0, 0}) {
		t.Errorf("Totals(s, nil, s): %v", got)
	}
	if got := scratch.Totals(); !slices.Equal(got, make([]uint64, 16)) {
		t.Errorf("Totals(): %v", got)
	}
}

// TestNew: P10.1, also when others were used ahead of it.
func TestNew(t *testing.T) {
	want(t, "the first", scratch.New(), seen{})
	old, w := full(t)
	s := scratch.New()
	want(t, "New behind a full one", s, seen{})
	want(t, "the full one behind New", old, w)
	if s == scratch.New() {
		t.Error("New answers one scratch twice")
	}
}

// TestZeroValues: those of Words, Counters and Scratch are all 0, and may be used.
func TestZeroValues(t *testing.T) {
	var s scratch.Scratch
	want(t, "the zero Scratch", &s, seen{})
	var w scratch.Words
	var c scratch.Counters
	for i := range 16 {
		if n, e := w.Load(i); n != 0 || e != api.OK {
			t.Errorf("Load(%d) of the zero Words: %d, %v", i, n, e)
		}
		if n, e := c.Count(i); n != 0 || e != api.OK {
			t.Errorf("Count(%d) of the zero Counters: %d, %v", i, n, e)
		}
	}
	if e := w.Store(15, 9); e != api.OK {
		t.Errorf("Store of the zero Words: %v", e)
	}
	if n, e := w.Load(15); n != 9 || e != api.OK {
		t.Errorf("Load of Words: %d, %v", n, e)
	}
	w.Wipe()
	if n, e := w.Load(15); n != 0 || e != api.OK {
		t.Errorf("Load of Words behind Wipe: %d, %v", n, e)
	}
	if n, e := c.Mark(15); n != 1 || e != api.OK {
		t.Errorf("Mark of the zero Counters: %d, %v", n, e)
	}
	c.Raise(4)
	if n, e := c.Count(0); n != 4 || e != api.OK {
		t.Errorf("Count of Counters behind Raise: %d, %v", n, e)
	}
	if e := s.Store(2, 3); e != api.OK {
		t.Errorf("Store of the zero Scratch: %v", e)
	}
	if n, e := s.Mark(2); n != 1 || e != api.OK {
		t.Errorf("Mark of the zero Scratch: %d, %v", n, e)
	}
	want(t, "the zero Scratch, used", &s, seen{words: [16]uint64{2: 3}, counts: [16]uint64{2: 1}})
	if got := scratch.Totals(&s, &scratch.Scratch{}); !slices.Equal(got, []uint64{0, 0, 1, 0, 0, 0, 0, 0, 0, 0, 0, 0, 0, 0, 0, 0}) {
		t.Errorf("Totals of zero Scratches: %v", got)
	}
}

// TestStore: P10.2; each word, with the smallest and the greatest number, twice, and no other word or counter moves.
func TestStore(t *testing.T) {
	for at := range 16 {
		s, w := full(t)
		for _, n := range []uint64{0, 1, most, most, 5, 1 << 63, 1<<32 + 1, 0} {
			if e := s.Store(at, n); e != api.OK {
				t.Errorf("Store(%d, %d): %v", at, n, e)
			}
			w.words[at] = n
			want(t, "behind Store", s, w)
		}
	}
}

// TestWipe: P10.2; all words are 0 and the counters stay, be the words stored to or not, and may be stored to again.
func TestWipe(t *testing.T) {
	s, w := full(t)
	s.Mark(7)
	w.counts[7]++
	w.words = [16]uint64{}
	for range 2 {
		s.Wipe()
		want(t, "behind Wipe", s, w)
	}
	s.Store(15, most)
	s.Store(0, 1)
	w.words[15], w.words[0] = most, 1
	want(t, "stored behind Wipe", s, w)
	s.Wipe()
	w.words = [16]uint64{}
	want(t, "behind Wipe of the two ends", s, w)
	if n, e := s.Mark(7); n != 209 || e != api.OK {
		t.Errorf("Mark behind Wipe: %d, %v", n, e)
	}
	z := scratch.New()
	z.Wipe()
	want(t, "Wipe of a new one", z, seen{})
}

// TestMark: P10.3; each counter, and no other counter or word moves; behind the greatest number comes 0.
func TestMark(t *testing.T) {
	for slot := range 16 {
		s, w := full(t)
		for range 5 {
			w.counts[slot]++
			if n, e := s.Mark(slot); n != w.counts[slot] || e != api.OK {
				t.Errorf("Mark(%d): %d, %v, want %d", slot, n, e, w.counts[slot])
			}
			want(t, "behind Mark", s, w)
		}
		up := make([]uint64, slot+1)
		up[slot] = most - w.counts[slot] - 1
		s.Raise(up...)
		for _, n := range []uint64{most, 0, 1} {
			w.counts[slot] = n
			if got, e := s.Mark(slot); got != n || e != api.OK {
				t.Errorf("Mark(%d) near the greatest number: %d, %v, want %d", slot, got, e, n)
			}
			want(t, "behind Mark near the greatest number", s, w)
		}
	}
}

// TestCount: P10.3; asking moves nothing.
func TestCount(t *testing.T) {
	s, w := full(t)
	for slot := range 16 {
		for range 3 {
			if n, e := s.Count(slot); n != 200+uint64(slot) || e != api.OK {
				t.Errorf("Count(%d): %d, %v", slot, n, e)
			}
		}
	}
	want(t, "behind Count", s, w)
}

// TestOutside: P10.2, P10.3; ErrBound and 0, and nothing changes, of a scratch and of its parts alone.
func TestOutside(t *testing.T) {
	for _, at := range outside() {
		s, w := full(t)
		if n, e := s.Load(at); n != 0 || e != api.ErrBound {
			t.Errorf("Load(%d): %d, %v", at, n, e)
		}
		for _, n := range []uint64{0, 1, most} {
			if e := s.Store(at, n); e != api.ErrBound {
				t.Errorf("Store(%d, %d): %v", at, n, e)
			}
		}
		if n, e := s.Mark(at); n != 0 || e != api.ErrBound {
			t.Errorf("Mark(%d): %d, %v", at, n, e)
		}
		if n, e := s.Count(at); n != 0 || e != api.ErrBound {
			t.Errorf("Count(%d): %d, %v", at, n, e)
		}
		want(t, "behind errors", s, w)
		if n, e := s.Words.Load(at); n != 0 || e != api.ErrBound {
			t.Errorf("Words.Load(%d): %d, %v", at, n, e)
		}
		if e := s.Words.Store(at, 1); e != api.ErrBound {
			t.Errorf("Words.Store(%d): %v", at, e)
		}
		if n, e := s.Counters.Mark(at); n != 0 || e != api.ErrBound {
			t.Errorf("Counters.Mark(%d): %d, %v", at, n, e)
		}
		if n, e := s.Counters.Count(at); n != 0 || e != api.ErrBound {
			t.Errorf("Counters.Count(%d): %d, %v", at, n, e)
		}
		want(t, "behind errors of the parts", s, w)
	}
}

// TestEverySmallNumber: just the numbers 0 to 15 are numbers of words and slots.
func TestEverySmallNumber(t *testing.T) {
	s := scratch.New()
	for at := -300; at <= 300; at++ {
		w := api.ErrBound
		if at >= 0 && at <= 15 {
			w = api.OK
		}
		_, load := s.Load(at)
		store := s.Store(at, 1)
		_, mark := s.Mark(at)
		_, count := s.Count(at)
		if load != w || store != w || mark != w || count != w {
			t.Errorf("number %d: %v, %v, %v, %v, want %v", at, load, store, mark, count, w)
		}
	}
	var ones [16]uint64
	for i := range ones {
		ones[i] = 1
	}
	want(t, "each once", s, seen{ones, ones})
}

// TestRaise: P10.4; lists of every length up to 40, nil among them: as far as both go.
func TestRaise(t *testing.T) {
	for many := range 41 {
		s, w := full(t)
		ns := make([]uint64, many)
		for i := range ns {
			ns[i] = 1000 + 3*uint64(i)
			if i < 16 {
				w.counts[i] += ns[i]
			}
		}
		kept := slices.Clone(ns)
		s.Raise(ns...)
		want(t, "behind Raise", s, w)
		if !slices.Equal(ns, kept) {
			t.Errorf("Raise changed what it was handed: %v, want %v", ns, kept)
		}
	}
	s, w := full(t)
	s.Raise()
	s.Raise(nil...)
	s.Raise([]uint64{}...)
	want(t, "behind Raise of none", s, w)
	s.Raise(make([]uint64, 100000)...)
	want(t, "behind Raise of many noughts", s, w)
}

// TestRaiseOver: P10.4; modulo 2^64, no counter carries over into the next.
func TestRaiseOver(t *testing.T) {
	s := scratch.New()
	s.Raise(most, most-1, 0, 1<<63)
	want(t, "at the greatest", s, seen{counts: [16]uint64{most, most - 1, 0, 1 << 63}})
	s.Raise(1, 1, most, 1<<63)
	want(t, "behind it", s, seen{counts: [16]uint64{0, most, most, 0}})
	s.Raise(most, most, most, most)
	want(t, "by the greatest", s, seen{counts: [16]uint64{most, most - 1, most - 1, most}})
}

// TestRaiseOneByOne: numbers handed in one by one and as a list are one.
func TestRaiseOneByOne(t *testing.T) {
	a, b := scratch.New(), scratch.New()
	a.Raise(1, 2, 3, 4, 5, 6, 7, 8, 9, 10, 11, 12, 13, 14, 15, 16, 17)
	b.Raise([]uint64{1, 2, 3, 4, 5, 6, 7, 8, 9, 10, 11, 12, 13, 14, 15, 16, 17}...)
	w := seen{counts: [16]uint64{1, 2, 3, 4, 5, 6, 7, 8, 9, 10, 11, 12, 13, 14, 15, 16}}
	want(t, "one by one", a, w)
	want(t, "as a list", b, w)
}

// TestRaiseKeepsNothing: the list that was handed in may be written to, and its spare room stays.
func TestRaiseKeepsNothing(t *testing.T) {
	s := scratch.New()
	room := []uint64{1, 2, 3, 71, 72, 73, 74, 75, 76, 77, 78, 79, 80, 81, 82, 83, 84, 85}
	kept := slices.Clone(room)
	s.Raise(room[:3]...)
	w := seen{counts: [16]uint64{1, 2, 3}}
	want(t, "behind Raise", s, w)
	s.Mark(0)
	w.counts[0]++
	s.Raise(0, 1)
	w.counts[1]++
	if !slices.Equal(room, kept) {
		t.Errorf("the list and its spare room: %v, want %v", room, kept)
	}
	for i := range room {
		room[i] = most
	}
	want(t, "behind writing to the list", s, w)
}

// TestTotals: P10.5; none, one, many, nil among them, one twice, nil alone.
func TestTotals(t *testing.T) {
	a, b, c := scratch.New(), scratch.New(), scratch.New()
	a.Raise(1, 2, 3)
	b.Raise(10, 0, 0, 0, 0, 0, 0, 0, 0, 0, 0, 0, 0, 0, 0, 40)
	c.Raise(100, 200)
	for i := range 16 {
		a.Store(i, 7)
		b.Store(i, most)
	}
	row := func(last uint64, first ...uint64) []uint64 {
		w := make([]uint64, 16)
		copy(w, first)
		w[15] = last
		return w
	}
	for _, x := range []struct {
		name string
		got  []uint64
		want []uint64
	}{
		{"none", scratch.Totals(), row(0)},
		{"the nil list", scratch.Totals(nil...), row(0)},
		{"the empty list", scratch.Totals([]*scratch.Scratch{}...), row(0)},
		{"nil", scratch.Totals(nil), row(0)},
		{"nil, nil", scratch.Totals(nil, nil), row(0)},
		{"a", scratch.Totals(a), row(0, 1, 2, 3)},
		{"b", scratch.Totals(b), row(40, 10)},
		{"a, b", scratch.Totals(a, b), row(40, 11, 2, 3)},
		{"b, a", scratch.Totals(b, a), row(40, 11, 2, 3)},
		{"a, b, c", scratch.Totals(a, b, c), row(40, 111, 202, 3)},
		{"a list", scratch.Totals([]*scratch.Scratch{a, b, c}...), row(40, 111, 202, 3)},
		{"nil, a", scratch.Totals(nil, a), row(0, 1, 2, 3)},
		{"a, nil", scratch.Totals(a, nil), row(0, 1, 2, 3)},
		{"a, nil, c", scratch.Totals(a, nil, c), row(0, 101, 202, 3)},
		{"a, a", scratch.Totals(a, a), row(0, 2, 4, 6)},
		{"b, a, b, b", scratch.Totals(b, a, b, b), row(120, 31, 2, 3)},
	} {
		if !slices.Equal(x.got, x.want) {
			t.Errorf("Totals of %s: %v, want %v", x.name, x.got, x.want)
		}
	}
	want(t, "a behind Totals", a, seen{words: look(t, a).words, counts: [16]uint64{1, 2, 3}})
	want(t, "c behind Totals", c, seen{counts: [16]uint64{100, 200}})
}

// TestTotalsOver: P10.5; modulo 2^64, slot by slot.
func TestTotalsOver(t *testing.T) {
	a, b := scratch.New(), scratch.New()
	a.Raise(most, 1<<63, 1, 0, most)
	b.Raise(1, 1<<63, most, 0, most)
	w := make([]uint64, 16)
	w[4] = most - 1
	if got := scratch.Totals(a, b); !slices.Equal(got, w) {
		t.Errorf("Totals(a, b): %v, want %v", got, w)
	}
	w[0], w[2], w[4] = 1, most, most-2
	w[1] = 1 << 63
	if got := scratch.Totals(a, b, b); !slices.Equal(got, w) {
		t.Errorf("Totals(a, b, b): %v, want %v", got, w)
	}
	many := make([]*scratch.Scratch, 1000)
	for i := range many {
		many[i] = a
	}
	var minus, plus uint64 = 1000, 1000
	if got := scratch.Totals(many...); got[0] != -minus || got[1] != 0 || got[2] != plus || got[3] != 0 || got[4] != -minus {
		t.Errorf("Totals of one a thousand times: %v", got)
	}
}

// TestTotalsIsNew: the list may be written to, up to the end of its room, and stays when a scratch goes on; what was handed in stays too.
func TestTotalsIsNew(t *testing.T) {
	for _, many := range []int{0, 1, 2, 5} {
		one, w := full(t)
		ss := make([]*scratch.Scratch, many, many+3)
		for i := range ss {
			ss[i] = one
		}
		other := scratch.New()
		spare := ss[:cap(ss)]
		for i := many; i < cap(ss); i++ {
			spare[i] = other
		}
		kept := slices.Clone(spare)
		first, second := scratch.Totals(ss...), scratch.Totals(ss...)
		firstWas := slices.Clone(first)
		whole := second[:cap(second)]
		for i := range whole {
			whole[i] = 999
		}
		want(t, "behind writing to the answer", one, w)
		want(t, "what stood in the spare room", other, seen{})
		if !slices.Equal(first, firstWas) {
			t.Errorf("two answers share memory: %v, want %v", first, firstWas)
		}
		if !slices.Equal(spare, kept) {
			t.Error("Totals changed the list that it was handed")
		}
		one.Mark(0)
		one.Raise(5, 5)
		if !slices.Equal(first, firstWas) {
			t.Errorf("the answer went on with its scratch: %v, want %v", first, firstWas)
		}
		for i := range spare {
			spare[i] = nil
		}
		if !slices.Equal(first, firstWas) {
			t.Errorf("the answer went on with what was handed in: %v, want %v", first, firstWas)
		}
	}
}

// TestParts: the methods through a scratch and those of its two parts are of the same words and counters.
func TestParts(t *testing.T) {
	s := scratch.New()
	w, c := &s.Words, &s.Counters
	s.Store(1, 5)
	if n, e := w.Load(1); n != 5 || e != api.OK {
		t.Errorf("Words.Load: %d, %v", n, e)
	}
	w.Store(2, 6)
	s.Mark(3)
	if n, e := c.Count(3); n != 1 || e != api.OK {
		t.Errorf("Counters.Count: %d, %v", n, e)
	}
	if n, e := c.Mark(3); n != 2 || e != api.OK {
		t.Errorf("Counters.Mark: %d, %v", n, e)
	}
	c.Raise(9)
	want(t, "by both", s, seen{words: [16]uint64{1: 5, 2: 6}, counts: [16]uint64{0: 9, 3: 2}})
	if got := scratch.Totals(s); got[0] != 9 || got[3] != 2 {
		t.Errorf("Totals: %v", got)
	}
	w.Wipe()
	want(t, "behind Words.Wipe", s, seen{counts: [16]uint64{0: 9, 3: 2}})
	built := &scratch.Scratch{Words: s.Words, Counters: *c}
	s.Mark(0)
	s.Store(0, 1)
	want(t, "one made of another's parts", built, seen{counts: [16]uint64{0: 9, 3: 2}})
}

// TestApart: P10.6; what is done to one scratch is seen in no other, and what is done to words in no counter, nor the other way round.
func TestApart(t *testing.T) {
	a, wa := full(t)
	b, wb := full(t)
	for i := range 16 {
		a.Store(i, 3)
		wa.words[i] = 3
		want(t, "a behind Store", a, wa)
		b.Mark(i)
		wb.counts[i]++
		want(t, "b behind Mark", b, wb)
		want(t, "a behind b's Mark", a, wa)
	}
	a.Wipe()
	wa.words = [16]uint64{}
	want(t, "a behind Wipe", a, wa)
	want(t, "b behind a's Wipe", b, wb)
	b.Raise(1)
	wb.counts[0]++
	want(t, "a behind b's Raise", a, wa)
	want(t, "b behind Raise", b, wb)
	c := *b
	c.Store(0, 77)
	c.Mark(0)
	c.Raise(2, 2)
	c.Wipe()
	want(t, "b behind what was done to a copy of it", b, wb)
}

// TestAnswersStay: a number that was answered is the caller's, whatever comes later.
func TestAnswersStay(t *testing.T) {
	s, _ := full(t)
	n, _ := s.Load(4)
	m, _ := s.Mark(4)
	c, _ := s.Count(4)
	s.Wipe()
	s.Mark(4)
	if n != 104 || m != 205 || c != 205 {
		t.Errorf("answers: %d, %d, %d", n, m, c)
	}
}
