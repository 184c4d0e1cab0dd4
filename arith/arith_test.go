package arith_test

import (
	"math"
	"math/big"
	"math/rand"
	"slices"
	"testing"

	"tappet/api"
	"tappet/arith"
)

const (
	half = uint64(1) << 63
	most = uint64(math.MaxUint64)
)

// edges are the numbers that the chapter names, those beside them, each power of 2 with those beside it, and some between.
func edges() []uint64 {
	ns := []uint64{0, 1, most, half, 3, 5, 6, 7, 10, 12, 100, 0x5555555555555555, 0xAAAAAAAAAAAAAAAA, 0x0123456789ABCDEF, 0xFEDCBA9876543210, 4294967291, 18446744073709551557}
	for k := range 64 {
		p := uint64(1) << k
		ns = append(ns, p-1, p, p+1, -p)
	}
	slices.Sort(ns)
	return slices.Compact(ns)
}

// numbers are every op, and numbers that are no operation: the least, the greatest, and those that become an operation once their upper bits are lost.
func numbers() []api.Op {
	ops := []api.Op{math.MinInt, math.MinInt + 1, math.MinInt + 10, math.MinInt + 16, math.MinInt32, math.MaxInt32, math.MaxInt - 1, math.MaxInt}
	for op := api.Op(-70); op <= 70; op++ {
		ops = append(ops, op)
	}
	for op := api.Op(0); op < api.Ops; op++ {
		ops = append(ops, op+1<<8, op-1<<8, op+1<<16, op+1<<32, op-1<<32, ^op)
	}
	slices.Sort(ops)
	return slices.Compact(ops)
}

// bits is what is made of a and b bit by bit: a bit is set where it is set in as many of the two as the table marks.
func bits(a, b uint64, set [3]bool) *big.Int {
	n := new(big.Int)
	for k := range 64 {
		if set[a>>k&1+b>>k&1] {
			n.SetBit(n, k, 1)
		}
	}
	return n
}

// told is P5.1 reckoned with whole numbers of any size, and cut to 64 bits at the end.
func told(op api.Op, a, b uint64) (uint64, bool) {
	x, y, n := new(big.Int).SetUint64(a), new(big.Int).SetUint64(b), new(big.Int)
	switch int(op) {
	case 1:
		n.Add(x, y)
	case 2:
		n.Sub(x, y)
	case 3:
		n.Mul(x, y)
	case 4:
		if b != 0 {
			n.Div(x, y)
		}
	case 5:
		n.Set(x)
		if b != 0 {
			n.Mod(x, y)
		}
	case 6:
		n = bits(a, b, [3]bool{2: true})
	case 7:
		n = bits(a, b, [3]bool{1: true, 2: true})
	case 8:
		n = bits(a, b, [3]bool{1: true})
	case 9:
		if b < 64 {
			n.Mul(x, power(b))
		}
	case 10:
		if b < 64 {
			n.Div(x, power(b))
		}
	default:
		return 0, false
	}
	return n.Mod(n, power(64)).Uint64(), true
}

// power is 2^b.
func power(b uint64) *big.Int {
	return new(big.Int).Exp(big.NewInt(2), new(big.Int).SetUint64(b), nil)
}

// toldHolds is P5.2.
func toldHolds(op api.Op, a, b uint64) (bool, bool) {
	order := new(big.Int).SetUint64(a).Cmp(new(big.Int).SetUint64(b))
	switch int(op) {
	case 16:
		return order == 0, true
	case 17:
		return order != 0, true
	case 18:
		return order == -1, true
	case 19:
		return order != -1, true
	}
	return false, false
}

// check holds Do and Holds against what is told of them, and Fold of these two.
func check(t *testing.T, op api.Op, a, b uint64) {
	t.Helper()
	want, made := told(op, a, b)
	if n, ok := arith.Do(op, a, b); n != want || ok != made {
		t.Errorf("P5.1: Do(%d, %d, %d) = %d, %v, not %d, %v", op, a, b, n, ok, want, made)
	}
	if n, ok := arith.Fold(op, a, b); n != want || ok != made {
		t.Errorf("P5.3: Fold(%d, %d, %d) = %d, %v, not %d, %v", op, a, b, n, ok, want, made)
	}
	held, asked := toldHolds(op, a, b)
	if h, ok := arith.Holds(op, a, b); h != held || ok != asked {
		t.Errorf("P5.2: Holds(%d, %d, %d) = %v, %v, not %v, %v", op, a, b, h, ok, held, asked)
	}
}

func TestDoByHand(t *testing.T) {
	for _, c := range []struct {
		op      api.Op
		a, b, n uint64
	}{
		{api.OpAdd, 2, 3, 5}, {api.OpAdd, most, 0, most}, {api.OpAdd, most, 1, 0}, {api.OpAdd, 1, most, 0}, {api.OpAdd, most, most, most - 1}, {api.OpAdd, half, half, 0}, {api.OpAdd, half, half - 1, most},
		{api.OpSub, 5, 3, 2}, {api.OpSub, 3, 5, most - 1}, {api.OpSub, 0, 1, most}, {api.OpSub, 0, most, 1}, {api.OpSub, 0, half, half}, {api.OpSub, most, most, 0}, {api.OpSub, half, most, half + 1},
		{api.OpMul, 6, 7, 42}, {api.OpMul, half, 2, 0}, {api.OpMul, half, 3, half}, {api.OpMul, most, most, 1}, {api.OpMul, most, 2, most - 1}, {api.OpMul, 1 << 32, 1 << 32, 0}, {api.OpMul, 1<<32 + 1, 1<<32 - 1, most}, {api.OpMul, most, 0, 0},
		{api.OpDiv, 7, 2, 3}, {api.OpDiv, 7, 7, 1}, {api.OpDiv, 7, 8, 0}, {api.OpDiv, 7, 0, 0}, {api.OpDiv, 0, 0, 0}, {api.OpDiv, most, 0, 0}, {api.OpDiv, most, 1, most}, {api.OpDiv, most, most, 1}, {api.OpDiv, most, half, 1}, {api.OpDiv, half, most, 0}, {api.OpDiv, most, 2, half - 1},
		{api.OpRem, 7, 4, 3}, {api.OpRem, 7, 7, 0}, {api.OpRem, 7, 8, 7}, {api.OpRem, 7, 0, 7}, {api.OpRem, 0, 0, 0}, {api.OpRem, most, 0, most}, {api.OpRem, half, 0, half}, {api.OpRem, most, 1, 0}, {api.OpRem, most, half, half - 1}, {api.OpRem, half, most, half}, {api.OpRem, most, 10, 5},
		{api.OpAnd, 12, 10, 8}, {api.OpAnd, most, half, half}, {api.OpAnd, half, half - 1, 0},
		{api.OpOr, 12, 10, 14}, {api.OpOr, half, half - 1, most}, {api.OpOr, 0, 0, 0},
		{api.OpXor, 12, 10, 6}, {api.OpXor, most, half, half - 1}, {api.OpXor, most, most, 0},
		{api.OpShl, 1, 0, 1}, {api.OpShl, 1, 1, 2}, {api.OpShl, 1, 63, half}, {api.OpShl, 1, 64, 0}, {api.OpShl, 1, 65, 0}, {api.OpShl, 3, 63, half}, {api.OpShl, half, 1, 0}, {api.OpShl, most, 63, half}, {api.OpShl, most, 64, 0}, {api.OpShl, most, 1 << 32, 0}, {api.OpShl, most, half, 0}, {api.OpShl, most, most, 0},
		{api.OpShr, 12, 0, 12}, {api.OpShr, 12, 2, 3}, {api.OpShr, 13, 2, 3}, {api.OpShr, half, 63, 1}, {api.OpShr, most, 63, 1}, {api.OpShr, most, 1, half - 1}, {api.OpShr, most, 64, 0}, {api.OpShr, most, 65, 0}, {api.OpShr, most, 128, 0}, {api.OpShr, half, half, 0}, {api.OpShr, most, most, 0}, {api.OpShr, most, 1 << 32, 0},
	} {
		if n, ok := arith.Do(c.op, c.a, c.b); n != c.n || !ok {
			t.Errorf("P5.1: Do(%d, %d, %d) = %d, %v, not %d, true", c.op, c.a, c.b, n, ok, c.n)
		}
	}
}

func TestDoOfOthers(t *testing.T) {
	for _, op := range []api.Op{
		api.OpSet, api.OpLoad, api.OpStore, api.OpField, api.OpMap, api.OpJump, api.OpJeq, api.OpJne, api.OpJlt, api.OpJge, api.OpLoop, api.OpCall, api.OpExit,
		api.Ops, 24, -1, -10, math.MinInt, math.MaxInt,
	} {
		for _, p := range [][2]uint64{{1, 2}, {0, 0}, {most, most}, {7, 0}} {
			if n, ok := arith.Do(op, p[0], p[1]); n != 0 || ok {
				t.Errorf("P5.1: Do(%d, %d, %d) = %d, %v, not 0, false", op, p[0], p[1], n, ok)
			}
		}
	}
}

func TestHoldsByHand(t *testing.T) {
	for _, c := range []struct {
		a, b           uint64
		eq, ne, lt, ge bool
	}{
		{0, 0, true, false, false, true}, {0, 1, false, true, true, false}, {1, 0, false, true, false, true},
		{5, 5, true, false, false, true}, {4, 5, false, true, true, false}, {6, 5, false, true, false, true},
		{1, most, false, true, true, false}, {most, 1, false, true, false, true}, {most, most, true, false, false, true},
		{half - 1, half, false, true, true, false}, {half, half - 1, false, true, false, true}, {half, most, false, true, true, false}, {most, 0, false, true, false, true},
		{1 << 32, 0, false, true, false, true}, {0, 1 << 32, false, true, true, false},
	} {
		for op, want := range map[api.Op]bool{api.OpJeq: c.eq, api.OpJne: c.ne, api.OpJlt: c.lt, api.OpJge: c.ge} {
			if h, ok := arith.Holds(op, c.a, c.b); h != want || !ok {
				t.Errorf("P5.2: Holds(%d, %d, %d) = %v, %v, not %v, true", op, c.a, c.b, h, ok, want)
			}
		}
	}
}

func TestHoldsOfOthers(t *testing.T) {
	for _, op := range numbers() {
		if op >= api.OpJeq && op <= api.OpJge {
			continue
		}
		for _, p := range [][2]uint64{{0, 0}, {1, 2}, {2, 1}, {most, most}, {0, most}} {
			if h, ok := arith.Holds(op, p[0], p[1]); h || ok {
				t.Errorf("P5.2: Holds(%d, %d, %d) = %v, %v, not false, false", op, p[0], p[1], h, ok)
			}
		}
	}
}

func TestEveryOpAtEveryEdge(t *testing.T) {
	ns := edges()
	for op := api.Op(0); op < api.Ops; op++ {
		for _, a := range ns {
			for _, b := range ns {
				check(t, op, a, b)
			}
		}
	}
}

func TestEveryNumberOfOp(t *testing.T) {
	for _, op := range numbers() {
		for _, a := range []uint64{0, 1, 7, half, most} {
			for _, b := range []uint64{0, 1, 7, 63, 64, half, most} {
				check(t, op, a, b)
			}
		}
	}
}

func TestShiftsByEverything(t *testing.T) {
	for b := range uint64(520) {
		for _, a := range []uint64{0, 1, 2, 3, 0x0123456789ABCDEF, half, most} {
			check(t, api.OpShl, a, b)
			check(t, api.OpShr, a, b)
		}
	}
}

func TestSmallNumbers(t *testing.T) {
	for op := api.OpAdd; op <= api.OpJge; op++ {
		for n := range uint64(40 * 40) {
			check(t, op, n/40, n%40)
		}
	}
}

// some is a number of any width, so that small ones come as often as great ones.
func some(r *rand.Rand) uint64 {
	return r.Uint64() >> r.Intn(64)
}

func TestAnyNumbers(t *testing.T) {
	r := rand.New(rand.NewSource(5))
	for range 40000 {
		check(t, api.Op(r.Intn(api.Ops)), some(r), some(r))
	}
}

func TestFoldByHand(t *testing.T) {
	for _, c := range []struct {
		op api.Op
		xs []uint64
		n  uint64
	}{
		{api.OpSub, []uint64{10, 3, 4}, 3}, {api.OpSub, []uint64{10, 3}, 7}, {api.OpSub, []uint64{10}, 10}, {api.OpSub, []uint64{0, 1, 1, 1}, most - 2},
		{api.OpAdd, []uint64{6}, 6}, {api.OpAdd, []uint64{1, 2, 3, 4, 5}, 15}, {api.OpAdd, []uint64{most, 1, 9}, 9}, {api.OpAdd, []uint64{most}, most}, {api.OpAdd, []uint64{0}, 0},
		{api.OpMul, []uint64{2, 3, 4}, 24}, {api.OpMul, []uint64{half, 2, 3}, 0}, {api.OpMul, []uint64{9}, 9},
		{api.OpDiv, []uint64{100, 5, 2}, 10}, {api.OpDiv, []uint64{2, 5, 100}, 0}, {api.OpDiv, []uint64{100, 0, 5}, 0}, {api.OpDiv, []uint64{7}, 7}, {api.OpDiv, []uint64{7, 2, 2}, 1},
		{api.OpRem, []uint64{100, 37, 10}, 6}, {api.OpRem, []uint64{100, 0, 7}, 2}, {api.OpRem, []uint64{7, 0, 0}, 7}, {api.OpRem, []uint64{5}, 5},
		{api.OpAnd, []uint64{15, 14, 12}, 12}, {api.OpAnd, []uint64{3}, 3}, {api.OpOr, []uint64{1, 2, 4}, 7}, {api.OpXor, []uint64{5, 1, 4}, 0}, {api.OpXor, []uint64{5, 1, 1}, 5},
		{api.OpShl, []uint64{1, 2, 3}, 32}, {api.OpShl, []uint64{1, 63, 1}, 0}, {api.OpShl, []uint64{1, 64, 0}, 0}, {api.OpShl, []uint64{70}, 70},
		{api.OpShr, []uint64{64, 2, 3}, 2}, {api.OpShr, []uint64{most, 32, 32}, 0}, {api.OpShr, []uint64{most, 32, 31}, 1},
	} {
		if n, ok := arith.Fold(c.op, c.xs...); n != c.n || !ok {
			t.Errorf("P5.3: Fold(%d, %d) = %d, %v, not %d, true", c.op, c.xs, n, ok, c.n)
		}
	}
	if n, ok := arith.Fold(api.OpSub, 10, 3, 4); n != 3 || !ok {
		t.Errorf("P5.3: Fold of single numbers = %d, %v, not 3, true", n, ok)
	}
}

func TestFoldOfNone(t *testing.T) {
	for _, op := range numbers() {
		for _, xs := range [][]uint64{nil, {}, make([]uint64, 0, 8), []uint64{4, 5}[:0]} {
			if n, ok := arith.Fold(op, xs...); n != 0 || ok {
				t.Errorf("P5.3: Fold(%d) = %d, %v, not 0, false", op, n, ok)
			}
		}
		if n, ok := arith.Fold(op); n != 0 || ok {
			t.Errorf("P5.3: Fold(%d) = %d, %v, not 0, false", op, n, ok)
		}
	}
}

func TestFoldOfOne(t *testing.T) {
	for _, op := range numbers() {
		made := op >= api.OpAdd && op <= api.OpShr
		for _, x := range []uint64{0, 1, 7, 64, half, most} {
			want := uint64(0)
			if made {
				want = x
			}
			if n, ok := arith.Fold(op, x); n != want || ok != made {
				t.Errorf("P5.3: Fold(%d, %d) = %d, %v, not %d, %v", op, x, n, ok, want, made)
			}
		}
	}
}

func TestFoldOfOthers(t *testing.T) {
	for _, op := range numbers() {
		if op >= api.OpAdd && op <= api.OpShr {
			continue
		}
		for _, xs := range [][]uint64{{1}, {1, 2}, {1, 2, 3}, {most, 0, half, 7}} {
			if n, ok := arith.Fold(op, xs...); n != 0 || ok {
				t.Errorf("P5.3: Fold(%d, %d) = %d, %v, not 0, false", op, xs, n, ok)
			}
		}
	}
}

// toldFold is P5.3, from its end: the last number with what is told of those ahead of it.
func toldFold(op api.Op, xs []uint64) (uint64, bool) {
	_, made := told(op, 0, 0)
	switch {
	case !made || len(xs) == 0:
		return 0, false
	case len(xs) == 1:
		return xs[0], true
	}
	n, _ := toldFold(op, xs[:len(xs)-1])
	return told(op, n, xs[len(xs)-1])
}

func TestFoldOfMany(t *testing.T) {
	r := rand.New(rand.NewSource(53))
	for range 4000 {
		op, xs := api.Op(r.Intn(api.Ops+2)-1), make([]uint64, r.Intn(9))
		for k := range xs {
			xs[k] = some(r)
		}
		want, made := toldFold(op, xs)
		if n, ok := arith.Fold(op, xs...); n != want || ok != made {
			t.Errorf("P5.3: Fold(%d, %d) = %d, %v, not %d, %v", op, xs, n, ok, want, made)
		}
	}
}

func TestFoldOfVeryMany(t *testing.T) {
	xs := make([]uint64, 1<<20)
	for k := range xs {
		xs[k] = uint64(k) << 40
	}
	// The numbers from 0 to 2^20 - 1 add up to 2^19 * (2^20 - 1).
	want := uint64(1<<19) * (1<<20 - 1)
	want <<= 40
	if n, ok := arith.Fold(api.OpAdd, xs...); n != want || !ok {
		t.Errorf("P5.3: Fold of a million numbers = %d, %v, not %d, true", n, ok, want)
	}
	if n, ok := arith.Fold(api.OpSub, xs...); n != -want || !ok {
		t.Errorf("P5.3: Fold of a million numbers = %d, %v, not %d, true", n, ok, -want)
	}
}

// number is what Do makes, where it must make a number.
func number(t *testing.T, op api.Op, a, b uint64) uint64 {
	t.Helper()
	n, ok := arith.Do(op, a, b)
	if !ok {
		t.Errorf("P5.1: Do(%d, %d, %d) makes no number", op, a, b)
	}
	return n
}

// condition is whether a condition holds, where it must be one.
func condition(t *testing.T, op api.Op, a, b uint64) bool {
	t.Helper()
	h, ok := arith.Holds(op, a, b)
	if !ok {
		t.Errorf("P5.2: Holds(%d, %d, %d) is no condition", op, a, b)
	}
	return h
}

func checkFollows(t *testing.T, a, b uint64) {
	t.Helper()
	div, rem := number(t, api.OpDiv, a, b), number(t, api.OpRem, a, b)
	if n := number(t, api.OpAdd, number(t, api.OpMul, div, b), rem); n != a || div*b+rem != a {
		t.Errorf("P5.4: (%d div %d) * %d + (%d rem %d) = %d", a, b, b, a, b, n)
	}
	if b != 0 && rem >= b {
		t.Errorf("P5.1: %d rem %d = %d", a, b, rem)
	}
	if condition(t, api.OpJeq, a, b) == condition(t, api.OpJne, a, b) {
		t.Errorf("P5.4: not just one of jeq and jne of %d and %d", a, b)
	}
	if condition(t, api.OpJlt, a, b) == condition(t, api.OpJge, a, b) {
		t.Errorf("P5.4: not just one of jlt and jge of %d and %d", a, b)
	}
}

func TestWhatFollows(t *testing.T) {
	ns := edges()
	for _, a := range ns {
		for _, b := range ns {
			checkFollows(t, a, b)
		}
	}
	r := rand.New(rand.NewSource(54))
	for range 20000 {
		checkFollows(t, some(r), some(r))
	}
}

func TestFoldLeavesItsNumbers(t *testing.T) {
	for _, op := range numbers() {
		whole := []uint64{9, most, half, 3, 0, 64, 1, 77, 78}
		for k := range 8 {
			arith.Fold(op, whole[1:1+k]...)
			arith.Fold(op, whole[1:1+k:1+k]...)
		}
		if !slices.Equal(whole, []uint64{9, most, half, 3, 0, 64, 1, 77, 78}) {
			t.Fatalf("P5.3: Fold(%d) changed its numbers, or what is behind them, to %d", op, whole)
		}
	}
}

// What was answered hangs on the arguments alone: on nothing that was handed in earlier, nor on what became of it.
func TestNothingIsKept(t *testing.T) {
	xs := []uint64{10, 3, 4}
	first, _ := arith.Fold(api.OpSub, xs...)
	xs[0], xs[1], xs[2] = 1, 2, 3
	second, _ := arith.Fold(api.OpSub, xs...)
	if first != 3 || second != most-3 {
		t.Errorf("P5.3: Fold = %d, %d, not 3, %d", first, second, most-3)
	}
	for range 3 {
		for _, op := range numbers() {
			arith.Do(op, most, half)
			arith.Holds(op, most, half)
			arith.Fold(op, most, half, 7)
			check(t, op, 3, 5)
			check(t, api.OpRem, 7, 0)
			check(t, api.OpJlt, 3, 5)
		}
	}
}

func FuzzDo(f *testing.F) {
	f.Add(3, uint64(3), uint64(5), uint64(64))
	f.Add(-1, half, most, uint64(0))
	f.Add(23, most, uint64(0), half)
	f.Fuzz(func(t *testing.T, op int, a, b, c uint64) {
		check(t, api.Op(op), a, b)
		checkFollows(t, a, b)
		want, made := toldFold(api.Op(op), []uint64{a, b, c})
		if n, ok := arith.Fold(api.Op(op), a, b, c); n != want || ok != made {
			t.Errorf("P5.3: Fold(%d, %d, %d, %d) = %d, %v, not %d, %v", op, a, b, c, n, ok, want, made)
		}
	})
}
