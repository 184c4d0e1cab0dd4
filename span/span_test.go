package span_test

import (
	"math"
	"math/big"
	"math/rand"
	"slices"
	"testing"

	"tappet/api"
	"tappet/arith"
	"tappet/span"
)

const (
	half = uint64(1) << 63
	most = uint64(math.MaxUint64)
)

var (
	none = api.Span{}
	full = api.Span{Hi: most}
)

func s(lo, hi uint64) api.Span { return api.Span{Lo: lo, Hi: hi} }

// ends are the numbers that the chapter names and those beside them.
func ends() []uint64 {
	return []uint64{0, 1, 2, 3, 7, 8, 9, 15, 16, 62, 63, 64, 65, 1<<32 - 1, 1 << 32, 1<<32 + 1, half - 1, half, half + 1, most - 1, most}
}

// fewEnds are the most telling of them.
func fewEnds() []uint64 {
	return []uint64{0, 1, 2, 5, 63, 64, 1 << 32, half - 1, half, half + 1, most - 1, most}
}

// between are all spans from one of the numbers to another, those that aren't right as well.
func between(ns []uint64) []api.Span {
	var ss []api.Span
	for _, lo := range ns {
		for _, hi := range ns {
			ss = append(ss, s(lo, hi))
		}
	}
	return ss
}

// right are those of the spans that are.
func right(ss []api.Span) []api.Span {
	return slices.DeleteFunc(ss, func(x api.Span) bool { return x.Lo > x.Hi })
}

// small are all right spans of the numbers below n.
func small(n uint64) []api.Span {
	var ss []api.Span
	for hi := range n {
		for lo := range hi + 1 {
			ss = append(ss, s(lo, hi))
		}
	}
	return ss
}

// numbers are every op, and numbers that are no operation: the least, the greatest, and those that become an operation once their upper bits are lost.
func numbers() []api.Op {
	ops := []api.Op{math.MinInt, math.MinInt + 1, math.MinInt + 10, math.MinInt + 16, math.MinInt32, math.MaxInt32, math.MaxInt - 1, math.MaxInt}
	for op := api.Op(-40); op <= 70; op++ {
		ops = append(ops, op)
	}
	for op := api.Op(0); op < api.Ops; op++ {
		ops = append(ops, op+1<<8, op-1<<8, op+1<<16, op+1<<32, op-1<<32, ^op)
	}
	slices.Sort(ops)
	return slices.Compact(ops)
}

// some is a number of any width, so that small ones come as often as great ones, sometimes counted from the greatest.
func some(r *rand.Rand) uint64 {
	n := r.Uint64() >> r.Intn(65)
	if r.Intn(4) == 0 {
		return ^n
	}
	return n
}

// someSpan is mostly a right one, often a single or a narrow one.
func someSpan(r *rand.Rand) api.Span {
	a, b := some(r), some(r)
	switch r.Intn(8) {
	case 0:
		return s(a, b)
	case 1, 2:
		return s(a, a)
	case 3:
		b = a ^ uint64(r.Intn(8))
	}
	return s(min(a, b), max(a, b))
}

func whole(n uint64) *big.Int { return new(big.Int).SetUint64(n) }

// power is 2^n, and beyond all that matters here something that is great enough.
func power(n uint64) *big.Int {
	return new(big.Int).Exp(big.NewInt(2), whole(min(n, 200)), nil)
}

func greater(a, b uint64) uint64 {
	if a > b {
		return a
	}
	return b
}

func lesser(a, b uint64) uint64 {
	return a + b - greater(a, b)
}

// filled is the m of or and xor, looked for from below.
func filled(a, b uint64) *big.Int {
	for k := uint64(0); ; k++ {
		m := power(k)
		m.Sub(m, big.NewInt(1))
		if m.Cmp(whole(a)) >= 0 && m.Cmp(whole(b)) >= 0 {
			return m
		}
	}
}

// fitted is the span of whole numbers of any size, Full if one is no number of 64 bits.
func fitted(lo, hi *big.Int) api.Span {
	if lo.Sign() < 0 || !hi.IsUint64() {
		return full
	}
	return s(lo.Uint64(), hi.Uint64())
}

// told is P6.3, reckoned with whole numbers of any size.
func told(op api.Op, a, b api.Span) (api.Span, bool) {
	if a.Lo > a.Hi || b.Lo > b.Hi || op < 1 || op > 10 {
		return none, false
	}
	if a.Lo == a.Hi && b.Lo == b.Hi {
		n, _ := arith.Do(op, a.Lo, b.Lo)
		return s(n, n), true
	}
	return toldWide(op, a, b), true
}

func toldWide(op api.Op, a, b api.Span) api.Span {
	lo, hi := new(big.Int), new(big.Int)
	switch int(op) {
	case 1:
		return fitted(lo.Add(whole(a.Lo), whole(b.Lo)), hi.Add(whole(a.Hi), whole(b.Hi)))
	case 2:
		return fitted(lo.Sub(whole(a.Lo), whole(b.Hi)), hi.Sub(whole(a.Hi), whole(b.Lo)))
	case 3:
		return fitted(lo.Mul(whole(a.Lo), whole(b.Lo)), hi.Mul(whole(a.Hi), whole(b.Hi)))
	case 4:
		if b.Lo == 0 {
			return s(0, a.Hi)
		}
		return fitted(lo.Div(whole(a.Lo), whole(b.Hi)), hi.Div(whole(a.Hi), whole(b.Lo)))
	case 5:
		if b.Lo == 0 {
			return s(0, a.Hi)
		}
		if a.Hi < b.Lo {
			return a
		}
		return s(0, lesser(a.Hi, b.Hi-1))
	case 6:
		return s(0, lesser(a.Hi, b.Hi))
	case 7:
		return fitted(whole(greater(a.Lo, b.Lo)), filled(a.Hi, b.Hi))
	case 8:
		return fitted(lo, filled(a.Hi, b.Hi))
	case 9:
		if b.Lo != b.Hi {
			return full
		}
		return fitted(lo.Mul(whole(a.Lo), power(b.Lo)), hi.Mul(whole(a.Hi), power(b.Lo)))
	}
	return fitted(lo.Div(whole(a.Lo), power(b.Hi)), hi.Div(whole(a.Hi), power(b.Lo)))
}

// toldRefine is P6.5, with each of the conditions written out.
func toldRefine(op api.Op, a, b api.Span, holds bool) (api.Span, bool) {
	if a.Lo > a.Hi || b.Lo > b.Hi || op < 16 || op > 19 {
		return none, false
	}
	if b.Lo != b.Hi {
		return a, true
	}
	n := b.Lo
	switch {
	case op == 18 && holds, op == 19 && !holds:
		if a.Lo >= n {
			return none, false
		}
		return s(a.Lo, lesser(a.Hi, n-1)), true
	case op == 19 && holds, op == 18 && !holds:
		if a.Hi < n {
			return none, false
		}
		return s(greater(a.Lo, n), a.Hi), true
	case op == 16 && holds, op == 17 && !holds:
		if n < a.Lo || n > a.Hi {
			return none, false
		}
		return s(n, n), true
	}
	switch {
	case a == s(n, n):
		return none, false
	case n == a.Lo:
		return s(n+1, a.Hi), true
	case n == a.Hi:
		return s(a.Lo, n-1), true
	}
	return a, true
}

func checkDo(t *testing.T, op api.Op, a, b api.Span) {
	t.Helper()
	want, made := told(op, a, b)
	if got, ok := span.Do(op, a, b); got != want || ok != made {
		t.Errorf("P6.3: Do(%d, %v, %v) = %v, %v, not %v, %v", op, a, b, got, ok, want, made)
	}
}

func checkRefine(t *testing.T, op api.Op, a, b api.Span, holds bool) {
	t.Helper()
	want, can := toldRefine(op, a, b, holds)
	if got, ok := span.Refine(op, a, b, holds); got != want || ok != can {
		t.Errorf("P6.5: Refine(%d, %v, %v, %v) = %v, %v, not %v, %v", op, a, b, holds, got, ok, want, can)
	}
}

func TestRightSingleFull(t *testing.T) {
	for _, c := range []struct {
		s    api.Span
		want bool
	}{
		{s(0, 0), true}, {s(1, 1), true}, {s(0, 1), true}, {s(1, 0), false}, {s(2, 1), false}, {s(5, 9), true}, {s(9, 5), false},
		{full, true}, {s(most, 0), false}, {s(most, most), true}, {s(most, most-1), false}, {s(most-1, most), true},
		{s(half-1, half), true}, {s(half, half-1), false}, {s(half, half), true}, {s(1, half), true}, {s(half, 1), false}, {s(1<<32, 1), false}, {s(1, 1<<32), true},
	} {
		if span.Right(c.s) != c.want {
			t.Errorf("P6.1: Right(%v) = %v", c.s, !c.want)
		}
	}
	for _, n := range ends() {
		if got := span.Single(n); got != s(n, n) {
			t.Errorf("P6.1: Single(%d) = %v", n, got)
		}
	}
	if got := span.Full(); got != full {
		t.Errorf("P6.1: Full() = %v", got)
	}
}

func TestHasByHand(t *testing.T) {
	for _, c := range []struct {
		s    api.Span
		n    uint64
		want bool
	}{
		{s(3, 5), 2, false}, {s(3, 5), 3, true}, {s(3, 5), 4, true}, {s(3, 5), 5, true}, {s(3, 5), 6, false},
		{s(3, 3), 3, true}, {s(3, 3), 2, false}, {s(3, 3), 4, false}, {s(0, 0), 0, true}, {s(0, 0), 1, false}, {s(0, 0), most, false},
		{s(3, 2), 3, false}, {s(3, 2), 2, false}, {s(5, 1), 3, false}, {s(most, 0), 0, false}, {s(most, 0), most, false}, {s(most, 0), 7, false},
		{full, 0, true}, {full, half, true}, {full, most, true}, {s(half, most), half - 1, false}, {s(half, most), half, true}, {s(half, most), most, true}, {s(1, half), most, false},
	} {
		if span.Has(c.s, c.n) != c.want {
			t.Errorf("P6.1: Has(%v, %d) = %v", c.s, c.n, !c.want)
		}
	}
}

func TestWithinByHand(t *testing.T) {
	for _, c := range []struct {
		a, b api.Span
		want bool
	}{
		{s(2, 2), s(1, 3), true}, {s(1, 2), s(2, 3), false}, {s(2, 4), s(1, 3), false}, {s(1, 3), s(1, 3), true}, {s(1, 3), s(1, 2), false}, {s(1, 3), s(2, 3), false},
		{s(1, 3), s(0, 4), true}, {s(0, 4), s(1, 3), false}, {s(5, 6), s(1, 3), false}, {s(1, 3), s(5, 6), false}, {s(3, 3), s(3, 3), true},
		{full, full, true}, {s(0, 0), full, true}, {s(most, most), full, true}, {full, s(0, most-1), false}, {full, s(1, most), false}, {s(0, 15), s(0, 15), true}, {s(0, 16), s(0, 15), false},
		{s(3, 2), full, false}, {s(3, 2), s(1, 4), false}, {s(3, 2), s(3, 2), false}, {s(2, 2), s(3, 1), false}, {s(3, 3), s(3, 2), false}, {s(2, 2), s(3, 2), false}, {s(3, 1), s(2, 2), false}, {s(most, 0), s(most, 0), false}, {s(most, 0), full, false}, {full, s(most, 0), false},
	} {
		if span.Within(c.a, c.b) != c.want {
			t.Errorf("P6.1: Within(%v, %v) = %v", c.a, c.b, !c.want)
		}
	}
}

func TestRightHasWithinAtEveryEnd(t *testing.T) {
	ss := between(fewEnds())
	for _, a := range ss {
		if span.Right(a) != (whole(a.Lo).Cmp(whole(a.Hi)) <= 0) {
			t.Errorf("P6.1: Right(%v) = %v", a, span.Right(a))
		}
		for _, n := range ends() {
			if want := n >= a.Lo && n <= a.Hi && a.Lo <= a.Hi; span.Has(a, n) != want {
				t.Errorf("P6.1: Has(%v, %d) = %v", a, n, !want)
			}
		}
		for _, b := range ss {
			want := a.Lo <= a.Hi && b.Lo <= b.Hi && a.Lo >= b.Lo && a.Hi <= b.Hi
			if span.Within(a, b) != want {
				t.Errorf("P6.1: Within(%v, %v) = %v", a, b, !want)
			}
		}
	}
}

// By their numbers, one after another: what lies within is what has no number outside.
func TestWithinIsOfNumbers(t *testing.T) {
	for _, a := range small(6) {
		for _, b := range small(6) {
			want := true
			for n := a.Lo; n <= a.Hi; n++ {
				want = want && span.Has(b, n)
			}
			if span.Within(a, b) != want {
				t.Errorf("P6.1: Within(%v, %v) = %v", a, b, !want)
			}
		}
	}
}

func TestJoinAndMeetByHand(t *testing.T) {
	for _, c := range []struct {
		ss    []api.Span
		join  api.Span
		joins bool
		meet  api.Span
		meets bool
		what  string
	}{
		{nil, none, false, none, false, "none"}, {[]api.Span{}, none, false, none, false, "none"},
		{[]api.Span{s(3, 5)}, s(3, 5), true, s(3, 5), true, "one"}, {[]api.Span{s(0, 0)}, s(0, 0), true, s(0, 0), true, "one"}, {[]api.Span{full}, full, true, full, true, "one"}, {[]api.Span{s(most, most)}, s(most, most), true, s(most, most), true, "one"},
		{[]api.Span{s(2, 1)}, none, false, none, false, "one that isn't right"}, {[]api.Span{s(most, 0)}, none, false, none, false, "one that isn't right"},
		{[]api.Span{s(1, 2), s(7, 9)}, s(1, 9), true, none, false, "two apart"}, {[]api.Span{s(7, 9), s(1, 2)}, s(1, 9), true, none, false, "two apart"},
		{[]api.Span{s(1, 2), s(3, 4)}, s(1, 4), true, none, false, "two side by side"}, {[]api.Span{s(3, 4), s(1, 2)}, s(1, 4), true, none, false, "two side by side"},
		{[]api.Span{s(1, 3), s(3, 4)}, s(1, 4), true, s(3, 3), true, "two that touch"}, {[]api.Span{s(3, 4), s(1, 3)}, s(1, 4), true, s(3, 3), true, "two that touch"},
		{[]api.Span{s(1, 5), s(4, 9)}, s(1, 9), true, s(4, 5), true, "two that overlap"}, {[]api.Span{s(4, 9), s(1, 5)}, s(1, 9), true, s(4, 5), true, "two that overlap"},
		{[]api.Span{s(1, 9), s(4, 5)}, s(1, 9), true, s(4, 5), true, "one in another"}, {[]api.Span{s(4, 5), s(1, 9)}, s(1, 9), true, s(4, 5), true, "one in another"}, {[]api.Span{s(4, 5), s(4, 5)}, s(4, 5), true, s(4, 5), true, "one twice"},
		{[]api.Span{s(0, 0), s(most, most)}, full, true, none, false, "the ends"}, {[]api.Span{full, s(7, 7)}, full, true, s(7, 7), true, "Full"}, {[]api.Span{s(0, half-1), s(half, most)}, full, true, none, false, "halves"}, {[]api.Span{s(0, half), s(half, most)}, full, true, s(half, half), true, "halves that touch"},
		{[]api.Span{s(1, 6), s(3, 9), s(2, 5)}, s(1, 9), true, s(3, 5), true, "three"}, {[]api.Span{s(1, 4), s(3, 6), s(5, 8)}, s(1, 8), true, none, false, "three, a chain"}, {[]api.Span{s(5, 5), s(5, 5), s(5, 5), s(5, 5)}, s(5, 5), true, s(5, 5), true, "four times one"},
		{[]api.Span{s(2, 1), s(1, 9)}, none, false, none, false, "the first isn't right"}, {[]api.Span{s(1, 9), s(2, 1)}, none, false, none, false, "the last isn't right"}, {[]api.Span{s(1, 9), s(3, 2), s(1, 9)}, none, false, none, false, "the middle isn't right"}, {[]api.Span{s(1, 2), s(3, 2), s(5, 9)}, none, false, none, false, "apart, the middle isn't right"},
	} {
		if got, ok := span.Join(c.ss...); got != c.join || ok != c.joins {
			t.Errorf("P6.2: Join(%v) = %v, %v, not %v, %v (%s)", c.ss, got, ok, c.join, c.joins, c.what)
		}
		if got, ok := span.Meet(c.ss...); got != c.meet || ok != c.meets {
			t.Errorf("P6.2: Meet(%v) = %v, %v, not %v, %v (%s)", c.ss, got, ok, c.meet, c.meets, c.what)
		}
	}
	if got, ok := span.Join(s(1, 2), s(7, 9)); got != s(1, 9) || !ok {
		t.Errorf("P6.2: Join of single spans = %v, %v", got, ok)
	}
	if got, ok := span.Meet(); got != none || ok {
		t.Errorf("P6.2: Meet() = %v, %v", got, ok)
	}
}

// toldJoin and toldMeet are P6.2 by sorted ends.
func toldJoin(ss []api.Span) (api.Span, bool) {
	los, his, ok := sortedEnds(ss)
	if !ok {
		return none, false
	}
	return s(los[0], his[len(his)-1]), true
}

func toldMeet(ss []api.Span) (api.Span, bool) {
	los, his, ok := sortedEnds(ss)
	if !ok || los[len(los)-1] > his[0] {
		return none, false
	}
	return s(los[len(los)-1], his[0]), true
}

func sortedEnds(ss []api.Span) (los, his []uint64, ok bool) {
	for _, x := range ss {
		if x.Lo > x.Hi {
			return nil, nil, false
		}
		los, his = append(los, x.Lo), append(his, x.Hi)
	}
	slices.Sort(los)
	slices.Sort(his)
	return los, his, len(ss) > 0
}

func checkMany(t *testing.T, ss ...api.Span) {
	t.Helper()
	want, ok := toldJoin(ss)
	if got, made := span.Join(ss...); got != want || made != ok {
		t.Errorf("P6.2: Join(%v) = %v, %v, not %v, %v", ss, got, made, want, ok)
	}
	want, ok = toldMeet(ss)
	if got, made := span.Meet(ss...); got != want || made != ok {
		t.Errorf("P6.2: Meet(%v) = %v, %v, not %v, %v", ss, got, made, want, ok)
	}
}

func TestJoinAndMeetOfMany(t *testing.T) {
	ss := between(fewEnds())
	for _, a := range ss {
		checkMany(t, a)
		for _, b := range ss {
			checkMany(t, a, b)
		}
	}
	few := between([]uint64{0, 3, half, most})
	for _, a := range few {
		for _, b := range few {
			for _, c := range few {
				checkMany(t, a, b, c)
			}
		}
	}
	r := rand.New(rand.NewSource(62))
	for range 5000 {
		ss := make([]api.Span, r.Intn(12))
		for k := range ss {
			ss[k] = someSpan(r)
		}
		checkMany(t, ss...)
		checkMany(t, right(ss)...)
	}
}

// The numbers of what is met are those in all; what is joined has all of them, and is as narrow as may be.
func TestJoinAndMeetAreOfNumbers(t *testing.T) {
	for _, a := range small(6) {
		for _, b := range small(6) {
			j, _ := span.Join(a, b)
			m, meets := span.Meet(a, b)
			if !span.Within(a, j) || !span.Within(b, j) || j.Lo != a.Lo && j.Lo != b.Lo || j.Hi != a.Hi && j.Hi != b.Hi {
				t.Errorf("P6.2: Join(%v, %v) = %v", a, b, j)
			}
			for n := range uint64(8) {
				if in := span.Has(a, n) && span.Has(b, n); in != (meets && span.Has(m, n)) {
					t.Errorf("P6.2: Meet(%v, %v) = %v, %v, and %d is in both: %v", a, b, m, meets, n, in)
				}
			}
		}
	}
}

func TestJoinAndMeetOfVeryMany(t *testing.T) {
	ss := make([]api.Span, 1<<20)
	for k := range ss {
		ss[k] = s(uint64(k)+7, most-uint64(k))
	}
	if got, ok := span.Join(ss...); got != s(7, most) || !ok {
		t.Errorf("P6.2: Join of a million = %v, %v", got, ok)
	}
	if got, ok := span.Meet(ss...); got != s(1<<20+6, most-(1<<20-1)) || !ok {
		t.Errorf("P6.2: Meet of a million = %v, %v", got, ok)
	}
	ss[1<<20-1] = s(1, 0)
	checkMany(t, ss...)
}

func TestDoByHand(t *testing.T) {
	for _, c := range []struct {
		op         api.Op
		a, b, want api.Span
	}{
		{api.OpAdd, s(1, 2), s(10, 20), s(11, 22)}, {api.OpAdd, s(0, 1), s(0, most-1), full}, {api.OpAdd, s(1, 2), s(3, most-2), s(4, most)}, {api.OpAdd, s(1, 2), s(3, most-1), full}, {api.OpAdd, s(1, 3), s(3, most-1), full}, {api.OpAdd, s(most-9, most), s(0, 0), s(most-9, most)}, {api.OpAdd, s(most-9, most), s(1, 1), full}, {api.OpAdd, s(half, half), s(half-2, half-1), s(most-1, most)}, {api.OpAdd, s(half, half), s(half, half+1), full}, {api.OpAdd, full, full, full}, {api.OpAdd, s(0, 0), s(0, 1), s(0, 1)}, {api.OpAdd, full, s(0, 0), full},
		{api.OpSub, s(5, 9), s(1, 6), full}, {api.OpSub, s(6, 9), s(1, 6), s(0, 8)}, {api.OpSub, s(7, 9), s(1, 6), s(1, 8)}, {api.OpSub, s(0, 9), s(0, 0), s(0, 9)}, {api.OpSub, s(0, 9), s(1, 1), full}, {api.OpSub, s(most, most), full, full}, {api.OpSub, full, s(0, 0), full}, {api.OpSub, full, full, full}, {api.OpSub, s(half, most), s(1, half), s(0, most-1)}, {api.OpSub, s(half-1, most), s(1, half), full},
		{api.OpMul, s(2, 3), s(4, 5), s(8, 15)}, {api.OpMul, s(0, 3), s(4, 5), s(0, 15)}, {api.OpMul, full, s(0, 0), s(0, 0)}, {api.OpMul, full, s(1, 1), full}, {api.OpMul, s(3, most), s(1, 1), s(3, most)}, {api.OpMul, s(3, most), s(0, 1), s(0, most)}, {api.OpMul, s(3, most), s(1, 2), full}, {api.OpMul, s(2, 1<<33), s(4, 1<<33), full}, {api.OpMul, s(1, 1<<32), s(1, 1<<32), full}, {api.OpMul, s(1, 1<<32+1), s(1, 1<<32-1), s(1, most)}, {api.OpMul, s(1, 1<<32+2), s(1, 1<<32-1), full}, {api.OpMul, s(1, half), s(2, 2), full}, {api.OpMul, s(1, half-1), s(2, 2), s(2, most-1)}, {api.OpMul, s(1, 5), s(1, most/5), s(1, most)}, {api.OpMul, s(1, 5), s(1, most/5+1), full},
		{api.OpDiv, s(10, 20), s(2, 5), s(2, 10)}, {api.OpDiv, s(11, 21), s(2, 5), s(2, 10)}, {api.OpDiv, s(9, 19), s(2, 5), s(1, 9)}, {api.OpDiv, s(10, 20), s(0, 5), s(0, 20)}, {api.OpDiv, s(10, 20), s(0, 0), s(0, 20)}, {api.OpDiv, s(7, 7), s(0, 0), s(0, 0)}, {api.OpDiv, s(7, 7), s(0, 1), s(0, 7)}, {api.OpDiv, full, s(1, 1), full}, {api.OpDiv, s(most, most), s(1, most), s(1, most)}, {api.OpDiv, full, full, full}, {api.OpDiv, s(half, most), s(half, half), s(1, 1)}, {api.OpDiv, s(0, 5), s(6, 9), s(0, 0)},
		{api.OpRem, s(0, 99), s(16, 16), s(0, 15)}, {api.OpRem, s(3, 9), s(10, 20), s(3, 9)}, {api.OpRem, s(3, 9), s(9, 20), s(0, 9)}, {api.OpRem, s(3, 9), s(8, 20), s(0, 9)}, {api.OpRem, s(3, 9), s(8, 9), s(0, 8)}, {api.OpRem, s(3, 9), s(8, 10), s(0, 9)}, {api.OpRem, s(3, 9), s(9, 9), s(0, 8)}, {api.OpRem, s(3, 9), s(0, 20), s(0, 9)}, {api.OpRem, s(3, 9), s(0, 4), s(0, 9)}, {api.OpRem, s(3, 9), s(0, 0), s(0, 9)}, {api.OpRem, s(3, 9), s(1, 1), s(0, 0)}, {api.OpRem, full, s(1, most), s(0, most-1)}, {api.OpRem, full, full, full}, {api.OpRem, s(half, most), s(half, half), s(0, half-1)}, {api.OpRem, s(0, most-1), s(most, most), s(0, most-1)}, {api.OpRem, s(5, 5), s(6, 9), s(5, 5)},
		{api.OpAnd, full, s(15, 15), s(0, 15)}, {api.OpAnd, s(8, 12), s(4, 5), s(0, 5)}, {api.OpAnd, s(4, 5), s(8, 12), s(0, 5)}, {api.OpAnd, full, full, full}, {api.OpAnd, full, s(0, 0), s(0, 0)}, {api.OpAnd, s(half, most), s(most, most), full},
		{api.OpOr, s(1, 4), s(2, 9), s(2, 15)}, {api.OpOr, s(3, 4), s(2, 9), s(3, 15)}, {api.OpOr, s(0, 1), s(0, 0), s(0, 1)}, {api.OpOr, s(0, 2), s(0, 0), s(0, 3)}, {api.OpOr, s(0, 7), s(1, 3), s(1, 7)}, {api.OpOr, s(0, 8), s(1, 3), s(1, 15)}, {api.OpOr, s(0, 9), s(1, 3), s(1, 15)}, {api.OpOr, s(0, half-1), s(1, 3), s(1, half-1)}, {api.OpOr, s(0, half), s(1, 3), s(1, most)}, {api.OpOr, s(1, 3), s(half, half), s(half, most)}, {api.OpOr, full, full, full}, {api.OpOr, full, s(9, 9), s(9, most)},
		{api.OpXor, s(1, 4), s(2, 9), s(0, 15)}, {api.OpXor, s(0, 1), s(0, 0), s(0, 1)}, {api.OpXor, s(6, 7), s(1, 3), s(0, 7)}, {api.OpXor, s(6, 8), s(1, 3), s(0, 15)}, {api.OpXor, s(1, half-1), s(2, 3), s(0, half-1)}, {api.OpXor, s(1, 3), s(2, half), full}, {api.OpXor, full, full, full},
		{api.OpShl, s(1, 3), s(2, 2), s(4, 12)}, {api.OpShl, s(1, 3), s(0, 0), s(1, 3)}, {api.OpShl, s(1, 3), s(1, 1), s(2, 6)}, {api.OpShl, s(1, 3), s(2, 3), full}, {api.OpShl, s(1, 1), s(2, 3), full}, {api.OpShl, s(0, 0), s(2, 3), full}, {api.OpShl, s(0, 0), s(0, most), full}, {api.OpShl, s(1, 3), s(62, 62), s(1<<62, 3<<62)}, {api.OpShl, s(1, 4), s(62, 62), full}, {api.OpShl, s(1, 3), s(63, 63), full}, {api.OpShl, s(0, 1), s(63, 63), s(0, half)}, {api.OpShl, s(0, 1), s(64, 64), full}, {api.OpShl, s(0, 1), s(65, 65), full}, {api.OpShl, s(0, 1), s(1<<32, 1<<32), full}, {api.OpShl, s(0, 1), s(most, most), full}, {api.OpShl, full, s(0, 0), full}, {api.OpShl, s(1, most), s(0, 0), s(1, most)}, {api.OpShl, s(1, most), s(1, 1), full}, {api.OpShl, s(1, half-1), s(1, 1), s(2, most-1)}, {api.OpShl, s(1, half), s(1, 1), full}, {api.OpShl, full, full, full},
		{api.OpShr, s(8, 64), s(1, 3), s(1, 32)}, {api.OpShr, s(9, 65), s(1, 3), s(1, 32)}, {api.OpShr, s(8, 64), s(0, 0), s(8, 64)}, {api.OpShr, s(8, 64), s(0, 64), s(0, 64)}, {api.OpShr, s(8, 64), s(64, 99), none}, {api.OpShr, s(most, most), s(63, 64), s(0, 1)}, {api.OpShr, s(most, most), s(62, 63), s(1, 3)}, {api.OpShr, full, s(63, 63), s(0, 1)}, {api.OpShr, full, s(64, 64), none}, {api.OpShr, full, s(1<<32, most), none}, {api.OpShr, s(half, most), s(63, 63), s(1, 1)}, {api.OpShr, full, full, full}, {api.OpShr, s(5, most), s(1, most), s(0, half-1)},
	} {
		if got, ok := span.Do(c.op, c.a, c.b); got != c.want || !ok {
			t.Errorf("P6.3: Do(%d, %v, %v) = %v, %v, not %v, true", c.op, c.a, c.b, got, ok, c.want)
		}
	}
}

// Of two single spans comes what the numbers give, wrapped where they wrap.
func TestDoOfTwoNumbers(t *testing.T) {
	for _, c := range []struct {
		op   api.Op
		a, b uint64
		n    uint64
	}{
		{api.OpAdd, most, 1, 0}, {api.OpAdd, most, most, most - 1}, {api.OpSub, 3, 5, most - 1}, {api.OpSub, 0, 1, most}, {api.OpMul, half, 2, 0}, {api.OpMul, most, most, 1},
		{api.OpDiv, 7, 0, 0}, {api.OpDiv, 7, 2, 3}, {api.OpRem, 7, 0, 7}, {api.OpRem, 7, 4, 3}, {api.OpAnd, 12, 10, 8}, {api.OpOr, 12, 10, 14}, {api.OpXor, 12, 10, 6}, {api.OpXor, 9, 9, 0},
		{api.OpShl, 1, 63, half}, {api.OpShl, 3, 63, half}, {api.OpShl, 1, 64, 0}, {api.OpShl, most, most, 0}, {api.OpShr, 12, 2, 3}, {api.OpShr, most, 64, 0}, {api.OpShr, most, 63, 1},
	} {
		if got, ok := span.Do(c.op, s(c.a, c.a), s(c.b, c.b)); got != s(c.n, c.n) || !ok {
			t.Errorf("P6.3: Do(%d, {%d}, {%d}) = %v, %v, not {%d}, true", c.op, c.a, c.b, got, ok, c.n)
		}
	}
	for op := api.OpAdd; op <= api.OpShr; op++ {
		for _, a := range ends() {
			for _, b := range ends() {
				n, _ := arith.Do(op, a, b)
				if got, ok := span.Do(op, span.Single(a), span.Single(b)); got != s(n, n) || !ok {
					t.Errorf("P6.3: Do(%d, {%d}, {%d}) = %v, %v, not {%d}, true", op, a, b, got, ok, n)
				}
			}
		}
	}
}

func TestDoOfOthers(t *testing.T) {
	for _, op := range numbers() {
		for _, p := range [][2]api.Span{{s(1, 1), s(1, 1)}, {s(1, 2), s(3, 4)}, {full, full}, {none, none}, {s(5, 9), s(2, 2)}, {s(4, 4), s(0, 64)}, {s(2, 1), s(1, 1)}, {full, s(2, 1)}} {
			checkDo(t, op, p[0], p[1])
			if op >= api.OpAdd && op <= api.OpShr {
				continue
			}
			if got, ok := span.Do(op, p[0], p[1]); got != none || ok {
				t.Errorf("P6.3: Do(%d, %v, %v) = %v, %v, not false", op, p[0], p[1], got, ok)
			}
		}
	}
}

func TestDoOfWhatIsNotRight(t *testing.T) {
	for op := api.OpAdd; op <= api.OpShr; op++ {
		for _, p := range [][2]api.Span{{s(1, 0), s(3, 3)}, {s(3, 3), s(1, 0)}, {s(1, 0), s(1, 0)}, {s(most, 0), full}, {full, s(most, 0)}, {s(9, 8), s(1, 5)}, {s(1, 5), s(9, 8)}, {s(most, most-1), s(0, 0)}, {s(0, 0), s(half, half-1)}} {
			if got, ok := span.Do(op, p[0], p[1]); got != none || ok {
				t.Errorf("P6.3: Do(%d, %v, %v) = %v, %v, not false", op, p[0], p[1], got, ok)
			}
		}
	}
}

func TestDoAtEveryEnd(t *testing.T) {
	ss := between(fewEnds())
	for op := api.OpSet; op <= api.OpLoad; op++ {
		for _, a := range ss {
			for _, b := range ss {
				checkDo(t, op, a, b)
			}
		}
	}
}

// Ends that lie just within, at and just beyond what a number can be.
func TestDoBesideTheBound(t *testing.T) {
	for _, n := range ends() {
		for _, d := range []uint64{0, 1, 2} {
			// a + b is at most - d, most and most + d; a - b at d, 0 and -d.
			checkDo(t, api.OpAdd, s(0, n), s(0, most-n-d))
			checkDo(t, api.OpAdd, s(n, n), s(0, most-n+d))
			checkDo(t, api.OpAdd, s(0, most-n+d), s(n, n))
			checkDo(t, api.OpSub, s(n, most), s(0, n-d))
			checkDo(t, api.OpSub, s(n, most), s(0, n+d))
			checkDo(t, api.OpSub, s(n-d, n), s(n, n))
			if n == 0 {
				continue
			}
			q := most / n
			checkDo(t, api.OpMul, s(0, n), s(1, q-d))
			checkDo(t, api.OpMul, s(0, n), s(1, q+d))
			checkDo(t, api.OpMul, s(1, q+d), s(n, n))
			checkDo(t, api.OpRem, s(0, n), s(n-d, most))
			checkDo(t, api.OpRem, s(0, n), s(n+d, n+d))
			checkDo(t, api.OpRem, s(0, most), s(n, n+d))
			checkDo(t, api.OpRem, s(1, n), s(1, n+d))
		}
	}
}

func TestDoBesidePowers(t *testing.T) {
	for k := range 65 {
		p := uint64(1) << k
		for _, hi := range []uint64{p - 2, p - 1, p, p + 1} {
			for _, op := range []api.Op{api.OpOr, api.OpXor, api.OpAnd} {
				checkDo(t, op, s(0, hi), s(0, 0))
				checkDo(t, op, s(0, 0), s(0, hi))
				checkDo(t, op, s(0, hi), s(min(3, hi), hi))
				checkDo(t, op, s(hi/2, hi), s(1, 5))
			}
		}
	}
}

func TestShiftsByEverything(t *testing.T) {
	far := []uint64{255, 256, 257, 1 << 16, 1 << 32, 1<<32 + 1, half, most - 1, most}
	for b := range uint64(200) {
		far = append(far, b)
	}
	for _, b := range far {
		for _, a := range []api.Span{s(0, 0), s(0, 1), s(1, 1), s(1, 3), s(5, 1<<20), s(1, most>>min(b, 63)), s(1, most>>min(b, 63)+1), s(0, half), full, s(most-1, most)} {
			for _, op := range []api.Op{api.OpShl, api.OpShr} {
				checkDo(t, op, a, s(b, b))
				checkDo(t, op, a, s(b, b+1))
				checkDo(t, op, a, s(0, b))
				checkDo(t, op, a, s(b, most))
				checkDo(t, op, a, s(b/2, b))
			}
		}
	}
}

func TestDoOfAnySpans(t *testing.T) {
	r := rand.New(rand.NewSource(63))
	for range 60000 {
		checkDo(t, api.Op(r.Intn(12)), someSpan(r), someSpan(r))
	}
}

// checkIn holds P6.4: what the numbers give lies in what the spans give.
func checkIn(t *testing.T, op api.Op, a, b api.Span, x, y uint64) {
	t.Helper()
	got, ok := span.Do(op, a, b)
	n, _ := arith.Do(op, x, y)
	if !ok || !span.Right(got) || !span.Has(got, n) {
		t.Errorf("P6.4: Do(%d, %v, %v) = %v, %v, but of %d and %d comes %d", op, a, b, got, ok, x, y, n)
	}
}

func TestSmallNumbersLieWithin(t *testing.T) {
	ss := small(9)
	for op := api.OpAdd; op <= api.OpShr; op++ {
		for _, a := range ss {
			for _, b := range ss {
				for x := a.Lo; x <= a.Hi; x++ {
					for y := b.Lo; y <= b.Hi; y++ {
						checkIn(t, op, a, b, x, y)
					}
				}
			}
		}
	}
}

func TestGreatNumbersLieWithin(t *testing.T) {
	ns := fewEnds()
	ss := right(between(ns))
	for op := api.OpAdd; op <= api.OpShr; op++ {
		for _, a := range ss {
			for _, b := range ss {
				for _, x := range ns {
					for _, y := range ns {
						if span.Has(a, x) && span.Has(b, y) {
							checkIn(t, op, a, b, x, y)
						}
					}
				}
			}
		}
	}
}

// within is any number of a right span.
func within(r *rand.Rand, a api.Span) uint64 {
	switch r.Intn(4) {
	case 0:
		return a.Lo
	case 1:
		return a.Hi
	}
	if a == full {
		return some(r)
	}
	return a.Lo + some(r)%(a.Hi-a.Lo+1)
}

func TestAnyNumbersLieWithin(t *testing.T) {
	r := rand.New(rand.NewSource(64))
	for range 60000 {
		a, b := someSpan(r), someSpan(r)
		if a.Lo > a.Hi || b.Lo > b.Hi {
			continue
		}
		checkIn(t, api.Op(r.Intn(10)+1), a, b, within(r, a), within(r, b))
	}
}

func TestRefineByHand(t *testing.T) {
	for _, c := range []struct {
		op    api.Op
		a     api.Span
		n     uint64
		holds bool
		want  api.Span
		ok    bool
	}{
		{api.OpJlt, full, 16, true, s(0, 15), true}, {api.OpJlt, s(5, 9), 4, true, none, false}, {api.OpJlt, s(5, 9), 5, true, none, false}, {api.OpJlt, s(5, 9), 6, true, s(5, 5), true}, {api.OpJlt, s(5, 9), 9, true, s(5, 8), true}, {api.OpJlt, s(5, 9), 10, true, s(5, 9), true}, {api.OpJlt, s(5, 9), 11, true, s(5, 9), true}, {api.OpJlt, s(5, 9), 0, true, none, false}, {api.OpJlt, full, 0, true, none, false}, {api.OpJlt, s(0, 0), 0, true, none, false}, {api.OpJlt, s(0, 0), 1, true, s(0, 0), true}, {api.OpJlt, full, most, true, s(0, most-1), true}, {api.OpJlt, s(most, most), most, true, none, false}, {api.OpJlt, full, 1, true, s(0, 0), true},
		{api.OpJlt, s(5, 9), 4, false, s(5, 9), true}, {api.OpJlt, s(5, 9), 5, false, s(5, 9), true}, {api.OpJlt, s(5, 9), 6, false, s(6, 9), true}, {api.OpJlt, s(5, 9), 9, false, s(9, 9), true}, {api.OpJlt, s(5, 9), 10, false, none, false}, {api.OpJlt, s(5, 9), 0, false, s(5, 9), true}, {api.OpJlt, full, 0, false, full, true}, {api.OpJlt, full, most, false, s(most, most), true}, {api.OpJlt, s(0, most-1), most, false, none, false},
		{api.OpJge, s(5, 9), 4, true, s(5, 9), true}, {api.OpJge, s(5, 9), 5, true, s(5, 9), true}, {api.OpJge, s(5, 9), 7, true, s(7, 9), true}, {api.OpJge, s(5, 9), 9, true, s(9, 9), true}, {api.OpJge, s(5, 9), 10, true, none, false}, {api.OpJge, full, 0, true, full, true}, {api.OpJge, full, most, true, s(most, most), true}, {api.OpJge, s(0, 0), 0, true, s(0, 0), true}, {api.OpJge, full, half, true, s(half, most), true},
		{api.OpJge, s(0, 20), 16, false, s(0, 15), true}, {api.OpJge, s(5, 9), 5, false, none, false}, {api.OpJge, s(5, 9), 6, false, s(5, 5), true}, {api.OpJge, s(5, 9), 10, false, s(5, 9), true}, {api.OpJge, s(5, 9), 0, false, none, false}, {api.OpJge, full, 0, false, none, false}, {api.OpJge, full, most, false, s(0, most-1), true}, {api.OpJge, full, half, false, s(0, half-1), true},
		{api.OpJeq, s(5, 9), 7, true, s(7, 7), true}, {api.OpJeq, s(5, 9), 5, true, s(5, 5), true}, {api.OpJeq, s(5, 9), 9, true, s(9, 9), true}, {api.OpJeq, s(5, 9), 4, true, none, false}, {api.OpJeq, s(5, 9), 10, true, none, false}, {api.OpJeq, full, 0, true, s(0, 0), true}, {api.OpJeq, full, most, true, s(most, most), true}, {api.OpJeq, s(4, 4), 4, true, s(4, 4), true}, {api.OpJeq, s(4, 4), 5, true, none, false},
		{api.OpJeq, s(5, 9), 9, false, s(5, 8), true}, {api.OpJeq, s(5, 9), 5, false, s(6, 9), true}, {api.OpJeq, s(5, 9), 7, false, s(5, 9), true}, {api.OpJeq, s(5, 9), 4, false, s(5, 9), true}, {api.OpJeq, s(5, 9), 10, false, s(5, 9), true}, {api.OpJeq, s(9, 9), 9, false, none, false}, {api.OpJeq, s(9, 9), 8, false, s(9, 9), true}, {api.OpJeq, full, 0, false, s(1, most), true}, {api.OpJeq, full, most, false, s(0, most-1), true}, {api.OpJeq, s(0, 0), 0, false, none, false}, {api.OpJeq, s(most, most), most, false, none, false}, {api.OpJeq, s(4, 5), 4, false, s(5, 5), true}, {api.OpJeq, s(4, 5), 5, false, s(4, 4), true},
		{api.OpJne, s(3, 9), 3, true, s(4, 9), true}, {api.OpJne, s(3, 9), 9, true, s(3, 8), true}, {api.OpJne, s(3, 9), 5, true, s(3, 9), true}, {api.OpJne, s(3, 9), 2, true, s(3, 9), true}, {api.OpJne, s(3, 9), 10, true, s(3, 9), true}, {api.OpJne, s(3, 3), 3, true, none, false}, {api.OpJne, s(3, 3), 4, true, s(3, 3), true}, {api.OpJne, full, 0, true, s(1, most), true}, {api.OpJne, full, most, true, s(0, most-1), true},
		{api.OpJne, s(3, 9), 3, false, s(3, 3), true}, {api.OpJne, s(3, 9), 6, false, s(6, 6), true}, {api.OpJne, s(3, 9), 9, false, s(9, 9), true}, {api.OpJne, s(3, 9), 2, false, none, false}, {api.OpJne, s(3, 9), 10, false, none, false}, {api.OpJne, full, most, false, s(most, most), true},
	} {
		if got, ok := span.Refine(c.op, c.a, s(c.n, c.n), c.holds); got != c.want || ok != c.ok {
			t.Errorf("P6.5: Refine(%d, %v, {%d}, %v) = %v, %v, not %v, %v", c.op, c.a, c.n, c.holds, got, ok, c.want, c.ok)
		}
	}
}

// Where b isn't single all of a stays, whatever b is.
func TestRefineByWhatIsNotKnown(t *testing.T) {
	for op := api.OpJeq; op <= api.OpJge; op++ {
		for _, a := range right(between(fewEnds())) {
			for _, b := range []api.Span{full, s(0, 1), s(1, 7), s(5, 6), s(half-1, half), s(most-1, most), s(0, most-1)} {
				for _, holds := range []bool{true, false} {
					if got, ok := span.Refine(op, a, b, holds); got != a || !ok {
						t.Errorf("P6.5: Refine(%d, %v, %v, %v) = %v, %v, not %v, true", op, a, b, holds, got, ok, a)
					}
				}
			}
		}
	}
}

func TestRefineOfOthers(t *testing.T) {
	for _, op := range numbers() {
		for _, p := range [][2]api.Span{{s(5, 9), s(7, 7)}, {s(5, 9), s(6, 8)}, {full, full}, {none, none}, {s(1, 1), s(2, 2)}, {s(2, 1), s(1, 1)}} {
			for _, holds := range []bool{true, false} {
				checkRefine(t, op, p[0], p[1], holds)
				if op >= api.OpJeq && op <= api.OpJge {
					continue
				}
				if got, ok := span.Refine(op, p[0], p[1], holds); got != none || ok {
					t.Errorf("P6.5: Refine(%d, %v, %v, %v) = %v, %v, not false", op, p[0], p[1], holds, got, ok)
				}
			}
		}
	}
}

func TestRefineOfWhatIsNotRight(t *testing.T) {
	for op := api.OpJeq; op <= api.OpJge; op++ {
		for _, p := range [][2]api.Span{{s(1, 0), s(3, 3)}, {s(3, 3), s(1, 0)}, {s(1, 0), s(1, 0)}, {s(most, 0), full}, {full, s(most, 0)}, {s(9, 8), s(1, 5)}, {s(1, 5), s(9, 8)}, {s(7, 6), s(7, 7)}, {s(7, 6), s(6, 6)}} {
			for _, holds := range []bool{true, false} {
				if got, ok := span.Refine(op, p[0], p[1], holds); got != none || ok {
					t.Errorf("P6.5: Refine(%d, %v, %v, %v) = %v, %v, not false", op, p[0], p[1], holds, got, ok)
				}
			}
		}
	}
}

func TestRefineAtEveryEnd(t *testing.T) {
	ss, bs := between(ends()), between([]uint64{0, 1, 5, half, most})
	for _, n := range ends() {
		bs = append(bs, s(n, n))
	}
	for op := api.OpJump; op <= api.OpLoop; op++ {
		for _, a := range ss {
			for _, b := range bs {
				checkRefine(t, op, a, b, true)
				checkRefine(t, op, a, b, false)
			}
		}
	}
}

func TestRefineOfAnySpans(t *testing.T) {
	r := rand.New(rand.NewSource(65))
	for range 60000 {
		op, a, b, holds := api.Op(r.Intn(6)+15), someSpan(r), someSpan(r), r.Intn(2) == 0
		checkRefine(t, op, a, b, holds)
		if a.Lo <= a.Hi {
			n := within(r, a)
			checkRefine(t, op, a, s(n, n), holds)
		}
	}
}

// checkStays holds P6.6: a number whose condition is as said is in what Refine answers.
func checkStays(t *testing.T, op api.Op, a, b api.Span, x, y uint64) {
	t.Helper()
	holds, _ := arith.Holds(op, x, y)
	if got, ok := span.Refine(op, a, b, holds); !ok || !span.Has(got, x) || !span.Within(got, a) {
		t.Errorf("P6.6: Refine(%d, %v, %v, %v) = %v, %v, but so it is of %d and %d", op, a, b, holds, got, ok, x, y)
	}
}

func TestSmallNumbersStay(t *testing.T) {
	ss := small(8)
	for op := api.OpJeq; op <= api.OpJge; op++ {
		for _, a := range ss {
			for _, b := range ss {
				for x := a.Lo; x <= a.Hi; x++ {
					for y := b.Lo; y <= b.Hi; y++ {
						checkStays(t, op, a, b, x, y)
					}
				}
			}
		}
	}
}

// Of a single b nothing is left in that a condition rules out, but the number amid a span that must not be equal.
func TestRefineIsNarrow(t *testing.T) {
	for op := api.OpJeq; op <= api.OpJge; op++ {
		for _, a := range small(9) {
			for n := range uint64(10) {
				for _, holds := range []bool{true, false} {
					got, ok := span.Refine(op, a, s(n, n), holds)
					for x := a.Lo; x <= a.Hi; x++ {
						is, _ := arith.Holds(op, x, n)
						amid := op <= api.OpJne && x == n && x != a.Lo && x != a.Hi && is != holds
						if (ok && span.Has(got, x)) != (is == holds || amid) {
							t.Errorf("P6.5: Refine(%d, %v, {%d}, %v) = %v, %v, and of %d it is %v", op, a, n, holds, got, ok, x, is)
						}
					}
				}
			}
		}
	}
}

func TestGreatNumbersStay(t *testing.T) {
	ns := fewEnds()
	ss := right(between(ns))
	for op := api.OpJeq; op <= api.OpJge; op++ {
		for _, a := range ss {
			for _, b := range ss {
				for _, x := range ns {
					for _, y := range ns {
						if span.Has(a, x) && span.Has(b, y) {
							checkStays(t, op, a, b, x, y)
						}
					}
				}
			}
		}
	}
}

func TestListsStayAsTheyWere(t *testing.T) {
	as := []api.Span{s(9, 9), s(1, 6), s(3, 9), s(2, 5), s(2, 1), s(0, most), s(7, 7)}
	whole := slices.Clone(as)
	for from := range whole {
		for to := from; to <= len(whole); to++ {
			span.Join(whole[from:to]...)
			span.Join(whole[from:to:to]...)
			span.Meet(whole[from:to]...)
			span.Meet(whole[from:to:to]...)
		}
	}
	if !slices.Equal(whole, as) {
		t.Fatalf("P6.2: Join or Meet changed its spans, or what is behind them, to %v", whole)
	}
}

// What was answered hangs on the arguments alone: on nothing that was handed in earlier, nor on what became of it.
func TestNothingIsKept(t *testing.T) {
	ss := []api.Span{s(1, 5), s(4, 9)}
	j, _ := span.Join(ss...)
	m, _ := span.Meet(ss...)
	ss[0], ss[1] = s(50, 60), s(55, 90)
	if j != s(1, 9) || m != s(4, 5) {
		t.Errorf("P6.2: what was answered became %v, %v", j, m)
	}
	j, _ = span.Join(ss...)
	m, _ = span.Meet(ss...)
	if j != s(50, 90) || m != s(55, 60) {
		t.Errorf("P6.2: Join, Meet = %v, %v, not {50 90}, {55 60}", j, m)
	}
	f := span.Full()
	f.Lo, f.Hi = 3, 4
	if span.Full() != full {
		t.Errorf("P6.1: Full() = %v, once an earlier answer was changed", span.Full())
	}
	for range 2 {
		for _, op := range numbers() {
			span.Do(op, full, s(2, 3))
			span.Refine(op, full, s(2, 2), true)
			checkDo(t, op, s(3, 5), s(1, 2))
			checkRefine(t, op, s(3, 5), s(4, 4), false)
			checkMany(t, s(3, 5), s(1, 3))
		}
	}
}

func FuzzDo(f *testing.F) {
	f.Add(3, uint64(3), uint64(5), uint64(64), uint64(65), uint64(0), uint64(0), true)
	f.Add(19, half, most, uint64(0), uint64(0), uint64(9), uint64(9), false)
	f.Add(23, most, uint64(0), half, half, half, half, true)
	f.Fuzz(func(t *testing.T, op int, alo, ahi, blo, bhi, x, y uint64, holds bool) {
		a, b := s(alo, ahi), s(blo, bhi)
		checkMany(t, a, b)
		for _, o := range []api.Op{api.Op(op), api.Op(uint(op) % 10)} {
			checkDo(t, o, a, b)
			checkDo(t, o, a, s(bhi, bhi))
		}
		for _, o := range []api.Op{api.Op(op), 16 + api.Op(uint(op)%4)} {
			checkRefine(t, o, a, b, holds)
			checkRefine(t, o, a, s(bhi, bhi), holds)
		}
		if span.Has(a, x) && span.Has(b, y) {
			checkIn(t, 1+api.Op(uint(op)%10), a, b, x, y)
			checkStays(t, 16+api.Op(uint(op)%4), a, b, x, y)
		}
	})
}
