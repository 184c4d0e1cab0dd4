package leb_test

import (
	"bytes"
	"encoding/binary"
	"math"
	"slices"
	"testing"

	"tappet/api"
	"tappet/leb"
)

// edges are the numbers at which the width of an encoding changes, and their neighbours.
func edges() []uint64 {
	ns := []uint64{0, 1, 2, 126, 127, 128, 129, 255, 256, 300, math.MaxInt64, math.MaxInt64 + 1, math.MaxUint64 - 1, math.MaxUint64}
	for k := 7; k < 64; k += 7 {
		ns = append(ns, 1<<k-1, 1<<k, 1<<k+1)
	}
	return ns
}

func signedEdges() []int64 {
	ns := []int64{0, -1, 1, -2, 2, math.MinInt64, math.MinInt64 + 1, math.MaxInt64 - 1, math.MaxInt64}
	for k := 6; k < 63; k += 7 {
		ns = append(ns, 1<<k-1, 1<<k, -1<<k, -1<<k-1)
	}
	return ns
}

// times is the byte c so many times, and then the last ones.
func times(k int, c byte, last ...byte) []byte {
	return append(bytes.Repeat([]byte{c}, k), last...)
}

func TestPut(t *testing.T) {
	for _, c := range []struct {
		ns   []uint64
		want []byte
	}{
		{nil, nil},
		{[]uint64{}, nil},
		{[]uint64{0}, []byte{0}},
		{[]uint64{0, 0, 0}, []byte{0, 0, 0}},
		{[]uint64{127}, []byte{0x7F}},
		{[]uint64{128}, []byte{0x80, 1}},
		{[]uint64{127, 128}, []byte{0x7F, 0x80, 1}},
		{[]uint64{128, 127}, []byte{0x80, 1, 0x7F}},
		{[]uint64{16383, 16384}, []byte{0xFF, 0x7F, 0x80, 0x80, 1}},
		{[]uint64{math.MaxInt64}, times(8, 0xFF, 0x7F)},
		{[]uint64{math.MaxInt64 + 1}, times(9, 0x80, 1)},
		{[]uint64{math.MaxUint64}, times(9, 0xFF, 1)},
		{[]uint64{math.MaxUint64, 0, 5}, times(9, 0xFF, 1, 0, 5)},
	} {
		if got := leb.Put(c.ns...); !bytes.Equal(got, c.want) {
			t.Errorf("P1.1: Put(%d) = %x, want %x", c.ns, got, c.want)
		}
		if got := leb.Width(c.ns...); got != len(c.want) {
			t.Errorf("P1.1: Width(%d) = %d, want %d", c.ns, got, len(c.want))
		}
	}
	if got := leb.Put(); len(got) != 0 {
		t.Errorf("P1.1: Put() = %x", got)
	}
	if got := leb.Width(); got != 0 {
		t.Errorf("P1.1: Width() = %d", got)
	}
}

func TestPutInt(t *testing.T) {
	for _, c := range []struct {
		ns   []int64
		want []byte
	}{
		{nil, nil},
		{[]int64{}, nil},
		{[]int64{0, -1, 1, -2}, []byte{0, 1, 2, 3}},
		{[]int64{-1, 1, -64, 64}, []byte{1, 2, 0x7F, 0x80, 1}},
		{[]int64{63, -65}, []byte{0x7E, 0x81, 1}},
		{[]int64{math.MaxInt64}, append([]byte{0xFE}, times(8, 0xFF, 1)...)},
		{[]int64{math.MinInt64}, times(9, 0xFF, 1)},
		{[]int64{math.MinInt64, 0}, times(9, 0xFF, 1, 0)},
	} {
		if got := leb.PutInt(c.ns...); !bytes.Equal(got, c.want) {
			t.Errorf("P1.1: PutInt(%d) = %x, want %x", c.ns, got, c.want)
		}
	}
	if got := leb.PutInt(); len(got) != 0 {
		t.Errorf("P1.1: PutInt() = %x", got)
	}
}

// TestPutAgainstLibrary: the library's varints are the same encodings, made by other code.
func TestPutAgainstLibrary(t *testing.T) {
	var all []byte
	for _, n := range edges() {
		want := binary.AppendUvarint(nil, n)
		all = append(all, want...)
		if got := leb.Put(n); !bytes.Equal(got, want) || leb.Width(n) != len(want) {
			t.Errorf("P1.1: Put(%d) = %x, Width %d, want %x", n, got, leb.Width(n), want)
		}
	}
	if got := leb.Put(edges()...); !bytes.Equal(got, all) || leb.Width(edges()...) != len(all) {
		t.Errorf("P1.1: Put of all edges = %x, want %x", got, all)
	}
	all = nil
	for _, n := range signedEdges() {
		want := binary.AppendVarint(nil, n)
		all = append(all, want...)
		if got := leb.PutInt(n); !bytes.Equal(got, want) {
			t.Errorf("P1.1: PutInt(%d) = %x, want %x", n, got, want)
		}
	}
	if got := leb.PutInt(signedEdges()...); !bytes.Equal(got, all) {
		t.Errorf("P1.1: PutInt of all edges = %x, want %x", got, all)
	}
}

func TestGet(t *testing.T) {
	for _, c := range []struct {
		b []byte
		n uint64
		w int
		e api.Errno
	}{
		{nil, 0, 0, api.ErrShort},
		{[]byte{}, 0, 0, api.ErrShort},
		{[]byte{0x80}, 0, 0, api.ErrShort},
		{[]byte{0xFF, 0xFF}, 0, 0, api.ErrShort},
		{times(9, 0xFF), 0, 0, api.ErrShort},
		{[]byte{0}, 0, 1, api.OK},
		{[]byte{0, 0}, 0, 1, api.OK},
		{[]byte{0, 0x80}, 0, 1, api.OK},
		{[]byte{5, 0}, 5, 1, api.OK},
		{[]byte{0x7F, 0xFF, 0}, 127, 1, api.OK},
		{[]byte{0x80, 1}, 128, 2, api.OK},
		{[]byte{0x80, 1, 0x55}, 128, 2, api.OK},
		{[]byte{0x80, 0x80, 1, 0x80}, 16384, 3, api.OK},
		{[]byte{0x80, 0}, 0, 0, api.ErrForm},
		{[]byte{0x81, 0, 1}, 0, 0, api.ErrForm},
		{[]byte{0xFF, 0x80, 0}, 0, 0, api.ErrForm},
		{times(8, 0xFF, 0x7F), math.MaxInt64, 9, api.OK},
		{times(8, 0xFF, 0), 0, 0, api.ErrForm},
		{times(9, 0x80, 0), 0, 0, api.ErrForm},
		{times(9, 0xFF, 0), 0, 0, api.ErrForm},
		{times(9, 0x80, 1), 1 << 63, 10, api.OK},
		{times(9, 0xFF, 1), math.MaxUint64, 10, api.OK},
		{times(9, 0xFF, 1, 0xFF, 0), math.MaxUint64, 10, api.OK},
		{times(9, 0xFF, 2), 0, 0, api.ErrForm},
		{times(9, 0x80, 0x7F), 0, 0, api.ErrForm},
		{times(9, 0xFF, 0x80), 0, 0, api.ErrForm},
		{times(9, 0xFF, 0x81), 0, 0, api.ErrForm},
		{times(9, 0xFF, 0x80, 1), 0, 0, api.ErrForm},
		{times(9, 0xFF, 0xFF), 0, 0, api.ErrForm},
		{times(100, 0x80), 0, 0, api.ErrForm},
	} {
		if n, w, e := leb.Get(c.b); n != c.n || w != c.w || e != c.e {
			t.Errorf("P1.2: Get(%x) = %d, %d, %d, want %d, %d, %d", c.b, n, w, e, c.n, c.w, c.e)
		}
	}
}

func TestGetTenth(t *testing.T) {
	for c := range 256 {
		for _, high := range []byte{0x80, 0x81, 0xFF} {
			n, w, e := leb.Get(times(9, high, byte(c), 1))
			if c == 1 && (n < 1<<63 || w != 10 || e != api.OK) {
				t.Errorf("P1.2: a tenth byte of 1: %d, %d, %d", n, w, e)
			}
			if c != 1 && (n != 0 || w != 0 || e != api.ErrForm) {
				t.Errorf("P1.2: a tenth byte of %d: %d, %d, %d", c, n, w, e)
			}
		}
	}
}

func TestGetInt(t *testing.T) {
	for _, c := range []struct {
		b []byte
		n int64
		w int
		e api.Errno
	}{
		{nil, 0, 0, api.ErrShort},
		{[]byte{0}, 0, 1, api.OK},
		{[]byte{1}, -1, 1, api.OK},
		{[]byte{2, 0x80}, 1, 1, api.OK},
		{[]byte{3}, -2, 1, api.OK},
		{[]byte{0x7F, 1}, -64, 1, api.OK},
		{[]byte{0x80, 1, 0}, 64, 2, api.OK},
		{[]byte{0x81}, 0, 0, api.ErrShort},
		{times(9, 0xFF), 0, 0, api.ErrShort},
		{[]byte{0x81, 0}, 0, 0, api.ErrForm},
		{times(9, 0xFF, 0), 0, 0, api.ErrForm},
		{times(9, 0xFF, 3), 0, 0, api.ErrForm},
		{times(9, 0xFF, 0x81), 0, 0, api.ErrForm},
		{times(9, 0xFF, 1), math.MinInt64, 10, api.OK},
		{leb.Put(math.MaxUint64 - 1), math.MaxInt64, 10, api.OK},
	} {
		if n, w, e := leb.GetInt(c.b); n != c.n || w != c.w || e != c.e {
			t.Errorf("P1.3: GetInt(%x) = %d, %d, %d, want %d, %d, %d", c.b, n, w, e, c.n, c.w, c.e)
		}
	}
}

func TestAll(t *testing.T) {
	for _, c := range []struct {
		b  []byte
		ns []uint64
		e  api.Errno
	}{
		{nil, nil, api.OK},
		{[]byte{}, nil, api.OK},
		{[]byte{0}, []uint64{0}, api.OK},
		{[]byte{5, 0}, []uint64{5, 0}, api.OK},
		{[]byte{0x7F, 0x80, 1, 0}, []uint64{127, 128, 0}, api.OK},
		{times(9, 0xFF, 1, 1), []uint64{math.MaxUint64, 1}, api.OK},
		{[]byte{0x80}, nil, api.ErrShort},
		{[]byte{5, 0x80}, nil, api.ErrShort},
		{[]byte{5, 6, 0x80, 0, 7}, nil, api.ErrForm},
		{[]byte{0x80, 0, 0x80}, nil, api.ErrForm},
		{times(9, 0xFF, 2), nil, api.ErrForm},
		{append([]byte{1}, times(9, 0xFF, 0x80)...), nil, api.ErrForm},
		{append([]byte{1}, times(9, 0xFF)...), nil, api.ErrShort},
	} {
		if ns, e := leb.All(c.b); !slices.Equal(ns, c.ns) || e != c.e {
			t.Errorf("P1.4: All(%x) = %d, %d, want %d, %d", c.b, ns, e, c.ns, c.e)
		}
	}
	for _, k := range []int{1, 2, 1000, 1 << 17} {
		if ns, e := leb.All(make([]byte, k)); len(ns) != k || slices.Max(ns) != 0 || e != api.OK {
			t.Errorf("P1.4: All of %d bytes of 0 = %d numbers, %d", k, len(ns), e)
		}
	}
	if ns, e := leb.All(leb.Put(edges()...)); !slices.Equal(ns, edges()) || e != api.OK {
		t.Errorf("P1.4: All of Put = %d, %d", ns, e)
	}
}

func TestGetReadsWhatPutLays(t *testing.T) {
	behind := [][]byte{nil, {0}, {1}, {0x80}, {0xFF, 0}, times(12, 0xFF)}
	for _, x := range behind {
		for _, n := range edges() {
			if got, w, e := leb.Get(append(leb.Put(n), x...)); got != n || w != leb.Width(n) || e != api.OK {
				t.Errorf("P1.5: Get of Put(%d) and %x = %d, %d, %d", n, x, got, w, e)
			}
		}
		for _, n := range signedEdges() {
			if got, w, e := leb.GetInt(append(leb.PutInt(n), x...)); got != n || w != len(leb.PutInt(n)) || e != api.OK {
				t.Errorf("P1.5: GetInt of PutInt(%d) and %x = %d, %d, %d", n, x, got, w, e)
			}
		}
	}
}

// TestPiecesOfEncodings: the bytes of an encoding without its last are no encoding yet.
func TestPiecesOfEncodings(t *testing.T) {
	for _, n := range edges() {
		b := leb.Put(n)
		for k := range b {
			if got, w, e := leb.Get(b[:k]); got != 0 || w != 0 || e != api.ErrShort {
				t.Errorf("P1.2: Get of %d bytes of Put(%d) = %d, %d, %d", k, n, got, w, e)
			}
		}
	}
}

// everyList calls do with every list of at most most bytes out of some, behind the bytes front.
func everyList(front, some []byte, most int, do func([]byte)) {
	do(front)
	if most == 0 {
		return
	}
	for _, c := range some {
		everyList(append(slices.Clone(front), c), some, most-1, do)
	}
}

// checkGet holds Get against the library: what that reads, in as many bytes as it would lay itself, is what Get must read. (Ten bytes that don't end are short to the library alone.)
func checkGet(t *testing.T, b []byte) {
	t.Helper()
	n, w, e := leb.Get(b)
	want, size := binary.Uvarint(b)
	switch {
	case size > 0 && bytes.Equal(binary.AppendUvarint(nil, want), b[:size]):
		if n != want || w != size || e != api.OK {
			t.Errorf("P1.5: Get(%x) = %d, %d, %d, want %d, %d, OK", b, n, w, e, want, size)
		}
	case size == 0 && len(b) < 10:
		if n != 0 || w != 0 || e != api.ErrShort {
			t.Errorf("P1.5: Get(%x) = %d, %d, %d, want ErrShort", b, n, w, e)
		}
	default:
		if n != 0 || w != 0 || e != api.ErrForm {
			t.Errorf("P1.5: Get(%x) = %d, %d, %d, want ErrForm", b, n, w, e)
		}
	}
	if e == api.OK && !bytes.Equal(leb.Put(n), b[:w]) {
		t.Errorf("P1.5: Get takes %x, which Put doesn't lay", b[:w])
	}
}

// checkSame holds GetInt and All against Get.
func checkSame(t *testing.T, b []byte) {
	t.Helper()
	n, w, e := leb.Get(b)
	i, wi, ei := leb.GetInt(b)
	if wi != w || ei != e || e != api.OK && i != 0 || e == api.OK && !bytes.Equal(leb.PutInt(i), b[:w]) {
		t.Errorf("P1.3: GetInt(%x) = %d, %d, %d, and Get = %d, %d, %d", b, i, wi, ei, n, w, e)
	}
	var want []uint64
	rest := b
	for len(rest) > 0 {
		n, w, e = leb.Get(rest)
		if e != api.OK {
			want = nil
			break
		}
		want = append(want, n)
		rest = rest[w:]
	}
	if len(b) == 0 {
		e = api.OK
	}
	if ns, ea := leb.All(b); !slices.Equal(ns, want) || ea != e {
		t.Errorf("P1.4: All(%x) = %d, %d, want %d, %d", b, ns, ea, want, e)
	}
}

func TestManyBytes(t *testing.T) {
	check := func(b []byte) {
		checkGet(t, b)
		checkSame(t, b)
	}
	every := make([]byte, 256)
	for c := range every {
		every[c] = byte(c)
	}
	some := []byte{0, 1, 2, 0x7F, 0x80, 0x81, 0xFF}
	everyList(nil, every, 2, check)
	everyList(nil, some, 5, check)
	for k := range 12 {
		everyList(times(k, 0x80), some, 3, check)
		everyList(times(k, 0xFF), some, 3, check)
	}
}

func FuzzGet(f *testing.F) {
	for _, n := range edges() {
		f.Add(leb.Put(n))
	}
	f.Fuzz(func(t *testing.T, b []byte) {
		checkGet(t, b)
		checkSame(t, b)
	})
}

// roomy is a list with spare room behind it, all of it filled, and a copy of the whole.
func roomy[T any](xs []T, filler T) ([]T, []T) {
	whole := append(slices.Clone(xs), slices.Repeat([]T{filler}, 16)...)
	return whole[:len(xs)], slices.Clone(whole)
}

// spoil writes over a list and its spare room.
func spoil[T any](xs []T, filler T) {
	xs = xs[:cap(xs)]
	for i := range xs {
		xs[i] = filler
	}
}

// checkApart asks of a call on a list that it leaves the list as it was, keeps none of it, and answers new memory each time.
func checkApart[In, Out comparable](t *testing.T, name string, xs []In, in In, out Out, call func([]In) []Out) {
	t.Helper()
	arg, before := roomy(xs, in)
	first := call(arg)
	second := call(arg)
	want := slices.Clone(first)
	if !slices.Equal(arg[:cap(arg)][:len(before)], before) {
		t.Errorf("P1.5: %s changes what it is handed", name)
	}
	spoil(first, out)
	if !slices.Equal(second, want) || !slices.Equal(call(arg), want) {
		t.Errorf("P1.5: two answers of %s share memory", name)
	}
	if !slices.Equal(arg[:cap(arg)][:len(before)], before) {
		t.Errorf("P1.5: an answer of %s shares memory with what was handed in", name)
	}
	spoil(arg, in)
	if !slices.Equal(second, want) || !slices.Equal(call(slices.Clone(xs)), want) {
		t.Errorf("P1.5: %s keeps what it is handed", name)
	}
}

func TestApart(t *testing.T) {
	checkApart(t, "Put", edges(), 77, 0xEE, func(ns []uint64) []byte { return leb.Put(ns...) })
	checkApart(t, "Put", nil, 77, 0xEE, func(ns []uint64) []byte { return leb.Put(ns...) })
	checkApart(t, "PutInt", signedEdges(), -77, 0xEE, func(ns []int64) []byte { return leb.PutInt(ns...) })
	checkApart(t, "Width", edges(), 77, -1, func(ns []uint64) []int { return []int{leb.Width(ns...)} })
	checkApart(t, "All", leb.Put(edges()...), 0xEE, 77, func(b []byte) []uint64 {
		ns, _ := leb.All(b)
		return ns
	})
	for _, b := range [][]byte{nil, {5}, {0x80}, {0x80, 0}, {0x80, 1, 0}, times(9, 0xFF, 1), times(9, 0xFF, 2)} {
		checkApart(t, "Get", b, 1, 0, func(b []byte) []uint64 {
			n, w, e := leb.Get(b)
			return []uint64{n, uint64(w), uint64(e)}
		})
		checkApart(t, "GetInt", b, 1, 0, func(b []byte) []int64 {
			n, w, e := leb.GetInt(b)
			return []int64{n, int64(w), int64(e)}
		})
		checkApart(t, "All", b, 1, 77, func(b []byte) []uint64 {
			ns, e := leb.All(b)
			return append(ns, uint64(e))
		})
	}
}
