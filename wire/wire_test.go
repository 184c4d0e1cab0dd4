package wire_test

import (
	"bytes"
	"encoding/binary"
	"math"
	"math/rand"
	"slices"
	"testing"

	"tappet/api"
	"tappet/leb"
	"tappet/ops"
	"tappet/wire"
)

// imms are the numbers that Imm is given as a source, among them the least and the greatest, and those at which its bytes become more.
var imms = []int64{math.MinInt64, math.MinInt64 + 1, -1 << 62, -1<<62 - 1, -1 << 32, -8193, -8192, -65, -64, -63, -2, -1, 0, 1, 2, 7, 8, 63, 64, 255, 8191, 8192, 1 << 32, 1<<62 - 1, 1 << 62, math.MaxInt64 - 1, math.MaxInt64}

// example is the chapter's module M, and packed its bytes.
func example() api.Module {
	return api.Module{Maps: []int{2}, Code: []api.Inst{{Op: api.OpSet, B: 8, Imm: 5}, {Op: api.OpExit}}}
}

var packed = []byte{0x54, 0x50, 1, 1, 2, 2, 0, 0, 0, 8, 0x0A, 0x16, 0, 0, 0, 0}

// rightOnes are instructions of every operation, with its fields at their bounds, as chapter 2's table has them.
func rightOnes() (out []api.Inst) {
	for _, r := range []int{0, 1, 6, 7} {
		for _, s := range sources() {
			for op := api.OpAdd; op <= api.OpShr; op++ {
				out = append(out, api.Inst{Op: op, D: r, A: 7 - r, B: s.B, Imm: s.Imm})
			}
			for op := api.OpJeq; op <= api.OpJge; op++ {
				out = append(out, api.Inst{Op: op, D: 9 * r, A: r, B: s.B, Imm: s.Imm})
			}
			out = append(out,
				api.Inst{Op: api.OpSet, D: r, B: s.B, Imm: s.Imm},
				api.Inst{Op: api.OpLoad, D: r, B: s.B, Imm: s.Imm},
				api.Inst{Op: api.OpStore, A: r, B: s.B, Imm: s.Imm})
		}
		for _, n := range []int64{1, 63, 64, 127, 128, 255} {
			out = append(out, api.Inst{Op: api.OpLoop, D: 1, A: r, Imm: n}, api.Inst{Op: api.OpLoop, D: 63, A: r, Imm: n})
		}
		for n := range int64(4) {
			out = append(out, api.Inst{Op: api.OpField, D: r, Imm: n % 2}, api.Inst{Op: api.OpMap, D: r, Imm: n})
		}
		out = append(out, api.Inst{Op: api.OpExit, A: r}, api.Inst{Op: api.OpJump, D: 9 * r})
	}
	for n := range int64(7) {
		out = append(out, api.Inst{Op: api.OpCall, Imm: n})
	}
	return out
}

// sources are B and Imm of sources: registers and numbers.
func sources() (out []api.Inst) {
	for r := range 8 {
		out = append(out, api.Inst{B: r})
	}
	for _, n := range imms {
		out = append(out, api.Inst{B: 8, Imm: n})
	}
	return out
}

// wrongOnes aren't right, though each of their fields is one that some instruction has.
var wrongOnes = []api.Inst{
	{Op: api.OpSet, D: 8}, {Op: api.OpSet, D: 63}, {Op: api.OpSet, A: 1}, {Op: api.OpSet, B: 9}, {Op: api.OpSet, B: 63}, {Op: api.OpSet, B: 2, Imm: 1}, {Op: api.OpSet, Imm: math.MinInt64},
	{Op: api.OpAdd, D: 8}, {Op: api.OpMul, A: 8}, {Op: api.OpShr, B: 9}, {Op: api.OpShr, Imm: -1},
	{Op: api.OpLoad, A: 1}, {Op: api.OpStore, D: 1}, {Op: api.OpStore, A: 8},
	{Op: api.OpField, Imm: 2}, {Op: api.OpField, B: 8}, {Op: api.OpField, Imm: -1}, {Op: api.OpField, A: 1}, {Op: api.OpMap, Imm: 4}, {Op: api.OpMap, D: 8},
	{Op: api.OpJump, A: 1}, {Op: api.OpJump, B: 8}, {Op: api.OpJump, Imm: 1},
	{Op: api.OpJeq, A: 8}, {Op: api.OpJge, A: 63}, {Op: api.OpJlt, B: 9}, {Op: api.OpJne, Imm: 3},
	{Op: api.OpLoop, Imm: 1}, {Op: api.OpLoop, D: 1}, {Op: api.OpLoop, D: 1, Imm: 256}, {Op: api.OpLoop, D: 1, Imm: -1}, {Op: api.OpLoop, D: 1, B: 8, Imm: 1},
	{Op: api.OpCall, Imm: 7}, {Op: api.OpCall, Imm: -1}, {Op: api.OpCall, D: 1}, {Op: api.OpCall, B: 8},
	{Op: api.OpExit, A: 8}, {Op: api.OpExit, D: 1}, {Op: api.OpExit, B: 8}, {Op: api.OpExit, Imm: 1},
}

// farOnes have a field that no bytes can tell, or none that Decode takes.
var farOnes = []api.Inst{
	{Op: -1}, {Op: 23}, {Op: math.MinInt}, {Op: math.MaxInt},
	{Op: api.OpSet, D: -1}, {Op: api.OpSet, D: 64}, {Op: api.OpAdd, A: -1}, {Op: api.OpAdd, A: 64}, {Op: api.OpAdd, B: -1}, {Op: api.OpAdd, B: 64},
	{Op: api.OpJump, D: 64}, {Op: api.OpJump, D: -1}, {Op: api.OpJeq, D: 64}, {Op: api.OpLoop, D: 64, Imm: 1}, {Op: api.OpLoop, D: -1, Imm: 1},
	{Op: api.OpExit, A: math.MinInt}, {Op: api.OpExit, A: math.MaxInt}, {Op: api.OpExit, B: math.MaxInt}, {Op: api.OpJump, D: math.MaxInt},
}

// fields are the bytes of a module, a list for each field, laid by the library's varints in place of layer 1.
func fields(m api.Module) [][]byte {
	out := [][]byte{{0x54}, {0x50}, {1}, plain(len(m.Maps))}
	for _, n := range m.Maps {
		out = append(out, plain(n))
	}
	out = append(out, plain(len(m.Code)))
	for _, i := range m.Code {
		out = append(out, plain(int(i.Op)), plain(i.D), plain(i.A), plain(i.B), binary.AppendVarint(nil, i.Imm))
	}
	return out
}

func plain(n int) []byte {
	return binary.AppendUvarint(nil, uint64(n))
}

func join(fs [][]byte) []byte {
	return bytes.Join(fs, nil)
}

// placeOf is where the field number k begins.
func placeOf(fs [][]byte, k int) int {
	return len(join(fs[:k]))
}

// with is fs with another field number k.
func with(fs [][]byte, k int, f ...byte) [][]byte {
	out := slices.Clone(fs)
	out[k] = f
	return out
}

// exits is a code of so many instructions.
func exits(many int) []api.Inst {
	out := make([]api.Inst, many)
	for k := range out {
		out[k] = api.Inst{Op: api.OpExit, A: k % 8}
	}
	return out
}

// samples are well-formed modules of all sizes.
func samples() []api.Module {
	out := []api.Module{
		example(),
		{Code: exits(1)},
		{Maps: []int{3, 0, 2, 1}, Code: exits(2)},
		{Maps: []int{0, 3}, Code: exits(63)},
		{Maps: []int{0, 1, 2, 3}, Code: exits(64)},
		{Maps: []int{0}, Code: []api.Inst{{Op: api.OpSet, D: 7, B: 8, Imm: math.MinInt64}, {Op: api.OpXor, D: 1, A: 2, B: 8, Imm: math.MaxInt64}, {Op: api.OpExit, A: 7}}},
	}
	for some := range slices.Chunk(rightOnes(), 61) {
		out = append(out, api.Module{Maps: []int{1, 2}, Code: some})
	}
	return out
}

func checkEncode(t *testing.T, m api.Module, want []byte, e api.Errno) {
	t.Helper()
	if b, got := wire.Encode(m); !bytes.Equal(b, want) || got != e {
		t.Errorf("P4.1: Encode(%v) = %x, %d, want %x, %d", m, b, got, want, e)
	}
}

func checkTaken(t *testing.T, b []byte, want api.Module) {
	t.Helper()
	m, place, e := wire.Decode(b)
	if !slices.Equal(m.Maps, want.Maps) || !slices.Equal(m.Code, want.Code) || place != 0 || e != api.OK {
		t.Errorf("P4.2: Decode(%x) = %v, %d, %d, want %v", b, m, place, e, want)
	}
}

func checkRefused(t *testing.T, b []byte, place int, e api.Errno) {
	t.Helper()
	m, at, got := wire.Decode(b)
	if len(m.Maps) != 0 || len(m.Code) != 0 || at != place || got != e {
		t.Errorf("P4.2: Decode(%x) = %v, %d, %d, want nothing, %d, %d", b, m, at, got, place, e)
	}
}

func TestExamples(t *testing.T) {
	m := example()
	checkEncode(t, m, packed, api.OK)
	checkTaken(t, packed, m)
	checkEncode(t, api.Module{Maps: []int{2, 2}, Code: m.Code}, nil, api.ErrArg)
	checkEncode(t, api.Module{Maps: []int{4}, Code: m.Code}, nil, api.ErrArg)
	checkEncode(t, api.Module{Maps: m.Maps}, nil, api.ErrArg)
	checkRefused(t, nil, 0, api.ErrShort)
	checkRefused(t, []byte{}, 0, api.ErrShort)
	checkRefused(t, []byte{0x54, 0x51}, 1, api.ErrForm)
	checkRefused(t, []byte{0x54, 0x50, 2}, 2, api.ErrForm)
	checkRefused(t, packed[:15], 15, api.ErrShort)
	checkRefused(t, append(slices.Clone(packed), 0), 16, api.ErrTrail)
	checkRefused(t, []byte{0x54, 0x50, 1, 5}, 3, api.ErrLong)
	checkRefused(t, []byte{0x54, 0x50, 1, 0, 0}, 4, api.ErrForm)
	checkRefused(t, []byte{0x54, 0x50, 1, 0, 0x41}, 4, api.ErrLong)
	checkRefused(t, []byte{0x54, 0x50, 1, 0, 1, 0x16, 1, 0, 0, 0}, 5, api.ErrForm)
}

// TestBothWays: what is laid is what the chapter says, byte for byte, and is taken apart again.
func TestBothWays(t *testing.T) {
	for _, m := range samples() {
		b := join(fields(m))
		checkEncode(t, m, b, api.OK)
		checkTaken(t, b, m)
	}
	seen := map[api.Op]bool{}
	for _, i := range rightOnes() {
		m := api.Module{Code: []api.Inst{i}}
		b := join(fields(m))
		checkEncode(t, m, b, api.OK)
		checkTaken(t, b, m)
		seen[i.Op] = true
	}
	if len(seen) != api.Ops {
		t.Errorf("%d operations were tried", len(seen))
	}
}

// TestImms: the least and the greatest Imm are of ten bytes, and are told apart.
func TestImms(t *testing.T) {
	lead := []byte{0x54, 0x50, 1, 0, 1, 0, 0, 0, 8}
	nines := bytes.Repeat([]byte{0xFF}, 9)
	for _, c := range []struct {
		imm int64
		b   []byte
	}{
		{0, []byte{0}}, {-1, []byte{1}}, {1, []byte{2}}, {-64, []byte{0x7F}}, {64, []byte{0x80, 1}}, {-65, []byte{0x81, 1}},
		{math.MinInt64, append(slices.Clone(nines), 1)},
		{math.MaxInt64, append([]byte{0xFE}, append(slices.Clone(nines[1:]), 1)...)},
	} {
		m := api.Module{Code: []api.Inst{{Op: api.OpSet, B: 8, Imm: c.imm}}}
		b := append(slices.Clone(lead), c.b...)
		checkEncode(t, m, b, api.OK)
		checkTaken(t, b, m)
	}
}

// mapsFault is the first of the maps that isn't as the chapter wants it; -1, if there is none.
func mapsFault(ms []int) int {
	seen := [4]int{}
	for k, n := range ms {
		if n < 0 || n > 3 {
			return k
		}
		if seen[n]++; seen[n] > 1 {
			return k
		}
	}
	return -1
}

// TestMaps: every list of up to five numbers from -1 to 4.
func TestMaps(t *testing.T) {
	code := exits(2)
	good := 0
	lists := [][]int{nil}
	for at := 0; at < len(lists); at++ {
		ms := lists[at]
		if len(ms) < 5 {
			for n := -1; n <= 4; n++ {
				lists = append(lists, append(slices.Clone(ms), n))
			}
		}
		m := api.Module{Maps: ms, Code: code}
		fs := fields(m)
		wrong := mapsFault(ms)
		switch {
		case len(ms) > 4:
			checkEncode(t, m, nil, api.ErrArg)
			checkRefused(t, join(fs), 3, api.ErrLong)
		case wrong >= 0:
			checkEncode(t, m, nil, api.ErrArg)
			checkRefused(t, join(fs), placeOf(fs, 4+wrong), api.ErrForm)
		default:
			good++
			checkEncode(t, m, join(fs), api.OK)
			checkTaken(t, join(fs), m)
		}
	}
	if good != 1+4+12+24+24 {
		t.Errorf("P4.1: %d lists of maps are good", good)
	}
	for _, n := range []int{math.MinInt, math.MaxInt, 1 << 32, 1<<32 + 1, -4, 255, 256} {
		checkEncode(t, api.Module{Maps: []int{n}, Code: code}, nil, api.ErrArg)
		checkEncode(t, api.Module{Maps: []int{0, 1, 2, n}, Code: code}, nil, api.ErrArg)
	}
	checkEncode(t, api.Module{Maps: make([]int, 1<<20), Code: code}, nil, api.ErrArg)
}

// TestHowMany: no instruction, one, 64, 65 and more, as Encode and as Decode are given them.
func TestHowMany(t *testing.T) {
	for many := range 200 {
		for _, maps := range [][]int{nil, {}, {1}, {3, 2, 1, 0}} {
			m := api.Module{Maps: maps, Code: exits(many)}
			fs := fields(m)
			place := placeOf(fs, 4+len(maps))
			switch {
			case many == 0:
				checkEncode(t, m, nil, api.ErrArg)
				checkRefused(t, join(fs), place, api.ErrForm)
			case many > 64:
				checkEncode(t, m, nil, api.ErrArg)
				checkRefused(t, join(fs), place, api.ErrLong)
				checkRefused(t, join(fs[:5+len(maps)]), place, api.ErrLong)
			default:
				checkEncode(t, m, join(fs), api.OK)
				checkTaken(t, join(fs), m)
			}
		}
	}
	checkEncode(t, api.Module{Code: make([]api.Inst, 1<<16)}, nil, api.ErrArg)
}

// TestSaidMany: a number of instructions that is more or less than those that follow.
func TestSaidMany(t *testing.T) {
	fs := fields(api.Module{Code: exits(3)})
	checkRefused(t, join(with(fs, 4, 2)), 15, api.ErrTrail)
	checkRefused(t, join(with(fs, 4, 1)), 10, api.ErrTrail)
	checkRefused(t, join(with(fs, 4, 4)), 20, api.ErrShort)
	checkRefused(t, join(with(fs, 4, 64)), 20, api.ErrShort)
	checkRefused(t, join(with(fs, 4, 0)), 4, api.ErrForm)
	checkRefused(t, join(with(fs, 3, 4)), 5, api.ErrForm)
}

// TestWrongInstruction: one that isn't right, at every place of a code. Decode tells where it begins.
func TestWrongInstruction(t *testing.T) {
	for _, many := range []int{1, 2, 3, 64} {
		for at := range many {
			for _, bad := range wrongOnes {
				m := api.Module{Maps: []int{3}, Code: exits(many)}
				m.Code[at] = bad
				fs := fields(m)
				checkEncode(t, m, nil, api.ErrArg)
				checkRefused(t, join(fs), placeOf(fs, 6+5*at), api.ErrForm)
			}
			for _, bad := range farOnes {
				m := api.Module{Code: exits(many)}
				m.Code[at] = bad
				checkEncode(t, m, nil, api.ErrArg)
			}
		}
	}
}

// TestSeveralWrong: Encode has one error for whatever isn't well formed, one fault or many.
func TestSeveralWrong(t *testing.T) {
	for _, maps := range [][]int{{4}, {-1}, {1, 1}, {0, 1, 2, 3, 0}, {0, 1, 2, 3, 4}} {
		for _, code := range [][]api.Inst{nil, {}, exits(1), exits(65), {{Op: 23}}, {{Op: api.OpExit, D: 1}}} {
			checkEncode(t, api.Module{Maps: maps, Code: code}, nil, api.ErrArg)
		}
	}
	checkEncode(t, api.Module{}, nil, api.ErrArg)
}

// TestBounds: each field of an instruction at every number to 200 and at great ones; Decode tells the field that is beyond its bound.
func TestBounds(t *testing.T) {
	var ns []uint64
	for n := range uint64(200) {
		ns = append(ns, n)
	}
	ns = append(ns, 255, 256, 257, 16383, 16384, 1<<31, 1<<32, 1<<32+1, 1<<63-1, 1<<63, 1<<63+1, math.MaxUint64)
	for _, base := range rightOnes()[:200] {
		fs := fields(api.Module{Maps: []int{1}, Code: []api.Inst{exits(1)[0], base, exits(1)[0]}})
		for k, most := range []uint64{22, 63, 63, 63} {
			for _, n := range ns {
				bad := with(fs, 11+k, binary.AppendUvarint(nil, n)...)
				if n > most {
					checkRefused(t, join(bad), placeOf(bad, 11+k), api.ErrForm)
				}
				checkAny(t, join(bad))
			}
		}
	}
}

// limits are what the chapter says of a field that is a number: the greatest that it may be, and the error above it.
func limits(m api.Module, k int) (most uint64, above api.Errno) {
	switch at := k - 5 - len(m.Maps); {
	case k == 3:
		return 4, api.ErrLong
	case at < -1:
		return 3, api.ErrForm
	case at == -1:
		return 64, api.ErrLong
	case at%5 == 0:
		return 22, api.ErrForm
	case at%5 < 4:
		return 63, api.ErrForm
	}
	return math.MaxUint64, api.OK
}

// TestLongForms: each number in forms that aren't its shortest, in its longest, and in longer ones than there are.
func TestLongForms(t *testing.T) {
	ones := bytes.Repeat([]byte{0xFF}, 9)
	noughts := bytes.Repeat([]byte{0x80}, 9)
	for _, m := range samples()[:6] {
		fs := fields(m)
		for k := 3; k < len(fs); k++ {
			place := placeOf(fs, k)
			for _, rest := range [][]byte{{0}, {0x80, 0}, {0x80, 0x80, 0x80, 0}} {
				longer := slices.Clone(fs[k])
				longer[len(longer)-1] |= 0x80
				checkRefused(t, join(with(fs, k, append(longer, rest...)...)), place, api.ErrForm)
			}
			for _, lead := range [][]byte{ones, noughts} {
				for _, tenth := range []byte{0, 2, 3, 0x7F, 0x80, 0x81, 0xFF} {
					checkRefused(t, join(with(fs, k, append(slices.Clone(lead), tenth)...)), place, api.ErrForm)
					checkRefused(t, join(with(fs, k, append(slices.Clone(lead), tenth, 1)...)), place, api.ErrForm)
				}
				for last := 1; last <= 9; last++ {
					checkAbove(t, m, fs, k, append(slices.Clone(lead[:last]), 1))
				}
			}
		}
	}
}

// checkAbove: the number f, in its only form, at the field number k, where it may be above what that field takes.
func checkAbove(t *testing.T, m api.Module, fs [][]byte, k int, f []byte) {
	t.Helper()
	n, _ := binary.Uvarint(f)
	b := join(with(fs, k, f...))
	if most, above := limits(m, k); n > most {
		checkRefused(t, b, placeOf(fs, k), above)
	}
	checkAny(t, b)
}

// TestGreatestImm: Imm alone takes numbers of ten bytes.
func TestGreatestImm(t *testing.T) {
	fs := fields(example())
	want := example()
	want.Code[0].Imm = math.MinInt64
	checkTaken(t, join(with(fs, 10, append(bytes.Repeat([]byte{0xFF}, 9), 1)...)), want)
	want.Code[0].Imm = 1 << 62
	checkTaken(t, join(with(fs, 10, append(bytes.Repeat([]byte{0x80}, 9), 1)...)), want)
}

// TestFirstThree: each of the first three bytes wrong in every way, and lacking.
func TestFirstThree(t *testing.T) {
	for at, right := range []byte{0x54, 0x50, 1} {
		checkRefused(t, packed[:at], at, api.ErrShort)
		for c := range 256 {
			b := slices.Clone(packed)
			b[at] = byte(c)
			if byte(c) == right {
				checkTaken(t, b, example())
				continue
			}
			checkRefused(t, b, at, api.ErrForm)
			checkRefused(t, b[:at+1], at, api.ErrForm)
		}
	}
	checkRefused(t, packed[:3], 3, api.ErrShort)
	checkRefused(t, []byte{0x55, 0x51, 2}, 0, api.ErrForm)
	checkRefused(t, []byte{0x54, 0x51, 2}, 1, api.ErrForm)
	checkRefused(t, []byte{0xD4, 0, 0x50, 1}, 0, api.ErrForm)
}

// TestEnds: bytes that end ahead of, or within, each field.
func TestEnds(t *testing.T) {
	for _, m := range samples() {
		fs := fields(m)
		whole := join(fs)
		for k, f := range fs {
			place := placeOf(fs, k)
			for within := range f {
				checkRefused(t, whole[:place+within], place, api.ErrShort)
			}
			if k >= 3 {
				checkRefused(t, append(slices.Clone(whole[:place]), 0x80), place, api.ErrShort)
				checkRefused(t, append(slices.Clone(whole[:place]), bytes.Repeat([]byte{0xFF}, 9)...), place, api.ErrShort)
			}
		}
	}
}

// TestTrail: something behind the last instruction, whatever it is.
func TestTrail(t *testing.T) {
	for _, m := range samples() {
		whole := join(fields(m))
		for c := range 256 {
			more := append(slices.Clone(whole), byte(c))
			checkRefused(t, more, len(whole), api.ErrTrail)
			checkRefused(t, append(more, 0x80, 0x80), len(whole), api.ErrTrail)
		}
		checkRefused(t, append(slices.Clone(whole), whole...), len(whole), api.ErrTrail)
	}
	checkRefused(t, append(slices.Clone(packed), make([]byte, 1<<20)...), len(packed), api.ErrTrail)
}

// TestFirstOfTwo: of two wrong fields the one in front is told, whatever is wrong with either.
func TestFirstOfTwo(t *testing.T) {
	m := api.Module{Maps: []int{1, 3}, Code: exits(3)}
	fs := fields(m)
	for k := range fs {
		for later := k + 1; later < len(fs); later++ {
			for _, second := range [][]byte{{0x80, 0}, {0xFF, 0x7F}, {99}} {
				if k < 3 {
					checkRefused(t, join(with(with(fs, later, second...), k, 0)), k, api.ErrForm)
					continue
				}
				both := with(with(fs, later, second...), k, 0x80, 0)
				checkRefused(t, join(both), placeOf(fs, k), api.ErrForm)
				most, above := limits(m, k)
				if above != api.OK {
					both = with(with(fs, later, second...), k, binary.AppendUvarint(nil, most+1)...)
					checkRefused(t, join(both), placeOf(fs, k), above)
					checkRefused(t, join(both)[:placeOf(both, k+1)], placeOf(fs, k), above)
				}
			}
		}
	}
}

// TestOneField: of two errors in one field layer 1's comes ahead of the bounds; and a map above 3 that was there already is refused once.
func TestOneField(t *testing.T) {
	fs := fields(example())
	for _, k := range []int{3, 4, 5, 6, 7, 8, 9} {
		checkRefused(t, join(with(fs, k, 0xFF, 0)), placeOf(fs, k), api.ErrForm)
		checkRefused(t, append(join(fs[:k]), 0xFF), placeOf(fs, k), api.ErrShort)
		checkRefused(t, append(join(fs[:k]), 0xFF, 0xFF, 0xFF), placeOf(fs, k), api.ErrShort)
	}
	checkRefused(t, []byte{0x54, 0x50, 1, 2, 5, 5}, 4, api.ErrForm)
	checkRefused(t, []byte{0x54, 0x50, 1, 2, 0, 0}, 5, api.ErrForm)
	checkRefused(t, []byte{0x54, 0x50, 1, 3, 0, 1, 0}, 6, api.ErrForm)
	checkRefused(t, []byte{0x54, 0x50, 1, 2, 0}, 5, api.ErrShort)
}

// TestWholeInstruction: that an instruction isn't right is told behind its last field, ahead of what follows.
func TestWholeInstruction(t *testing.T) {
	for _, bad := range wrongOnes {
		fs := fields(api.Module{Code: []api.Inst{exits(1)[0], bad, exits(1)[0]}})
		for k := 11; k < 15; k++ {
			checkRefused(t, join(fs[:k]), placeOf(fs, k), api.ErrShort)
			checkRefused(t, join(with(fs, k, 0x80, 0)), placeOf(fs, k), api.ErrForm)
			checkRefused(t, append(join(fs[:k]), 0x80), placeOf(fs, k), api.ErrShort)
		}
		checkRefused(t, join(fs[:15]), 10, api.ErrForm)
		for k := 15; k < 20; k++ {
			checkRefused(t, join(with(fs, k, 0x80, 0)), 10, api.ErrForm)
			checkRefused(t, join(fs[:k]), 10, api.ErrForm)
		}
		checkRefused(t, append(join(fs), 1), 10, api.ErrForm)
	}
	// B is above 63 in an instruction that isn't right anyway: B is met first
	checkRefused(t, []byte{0x54, 0x50, 1, 0, 1, 0x16, 1, 0, 0x40, 0}, 8, api.ErrForm)
	// the instruction isn't right, and the bytes go on behind it
	checkRefused(t, []byte{0x54, 0x50, 1, 0, 1, 0x16, 1, 0, 0, 0, 0}, 5, api.ErrForm)
}

// number is what layer 1's chapter says of the front of b, by the library's varints: the number, its bytes, and the error.
func number(b []byte) (uint64, int, api.Errno) {
	n, width := binary.Uvarint(b)
	for k, c := range b[:min(10, len(b))] {
		if k == 9 && c > 1 || k > 0 && c == 0 {
			return 0, 0, api.ErrForm
		}
		if c < 128 {
			return n, width, api.OK
		}
	}
	return 0, 0, api.ErrShort
}

// unread is more than any number of maps or instructions, so that till it is read no field is behind it.
const unread = math.MaxInt32

// row is what the numbers that were read so far came to.
type row struct {
	m          api.Module
	maps, many uint64
	i          api.Inst // the one that is being read
	start      int      // where it begins
}

// told is what the chapter says of any bytes: the numbers are read in one row, and which field each of them is follows from how many are ahead of it.
func told(b []byte) (m api.Module, place int, e api.Errno) {
	r := row{maps: unread, many: unread}
	at := 0
	for k := uint64(0); r.many == unread || k < 5+r.maps+5*r.many; k++ {
		n, width, e := number(b[at:])
		if k < 3 && at < len(b) {
			n, width, e = uint64(b[at]), 1, api.OK
		}
		place := at
		if e == api.OK {
			place, e = r.take(k, n, at)
		}
		if e != api.OK {
			return api.Module{}, place, e
		}
		at += width
	}
	if at < len(b) {
		return api.Module{}, at, api.ErrTrail
	}
	return r.m, 0, api.OK
}

// take is what the chapter says of the field number k, which is n and begins at that place.
func (r *row) take(k, n uint64, at int) (int, api.Errno) {
	switch {
	case k < 3:
		return at, refuse(n != []uint64{0x54, 0x50, 1}[k], api.ErrForm)
	case k == 3:
		r.maps = n
		return at, refuse(n > 4, api.ErrLong)
	case k < 4+r.maps:
		twice := slices.Contains(r.m.Maps, int(n))
		r.m.Maps = append(r.m.Maps, int(n))
		return at, refuse(n > 3 || twice, api.ErrForm)
	case k == 4+r.maps:
		r.many = n
		return at, max(refuse(n == 0, api.ErrForm), refuse(n > 64, api.ErrLong))
	}
	switch part := (k - 5 - r.maps) % 5; part {
	case 0:
		r.i, r.start = api.Inst{Op: api.Op(n)}, at
		return at, refuse(n > 22, api.ErrForm)
	case 1, 2, 3:
		*[]*int{&r.i.D, &r.i.A, &r.i.B}[part-1] = int(n)
		return at, refuse(n > 63, api.ErrForm)
	}
	r.i.Imm = int64(n>>1) ^ -int64(n&1)
	r.m.Code = append(r.m.Code, r.i)
	return r.start, refuse(!ops.Right(r.i), api.ErrForm)
}

func refuse(wrong bool, e api.Errno) api.Errno {
	if wrong {
		return e
	}
	return api.OK
}

// checkAny holds Decode against what the chapter says of any bytes, and what it takes against Encode.
func checkAny(t *testing.T, b []byte) {
	t.Helper()
	want, place, e := told(b)
	if e != api.OK {
		checkRefused(t, b, place, e)
		return
	}
	checkTaken(t, b, want)
	m, _, _ := wire.Decode(b)
	if back, e := wire.Encode(m); !bytes.Equal(back, b) || e != api.OK {
		t.Errorf("P4.3: Decode takes %x, which Encode lays %x, %d", b, back, e)
	}
}

// TestNearBytes: bytes that are one off a module's are taken just where the chapter says so.
func TestNearBytes(t *testing.T) {
	all := make([]byte, 256)
	for c := range all {
		all[c] = byte(c)
	}
	for _, m := range samples()[:8] {
		b, others := join(fields(m)), all
		if len(b) > 64 {
			others = few
		}
		for at := range b {
			checkAny(t, slices.Delete(slices.Clone(b), at, at+1))
			for _, c := range others {
				near := slices.Clone(b)
				near[at] = c
				checkAny(t, near)
				checkAny(t, slices.Insert(slices.Clone(b), at, c))
			}
		}
	}
}

// few are bytes near the bounds of the fields.
var few = []byte{0, 1, 2, 3, 4, 5, 7, 8, 9, 22, 23, 63, 64, 65, 127, 128, 129, 255}

// TestAnyBytes: bytes of all kinds, the same in every run, most of them with a right beginning.
func TestAnyBytes(t *testing.T) {
	r := rand.New(rand.NewSource(4))
	for range 200000 {
		b := make([]byte, r.Intn(40))
		for k := range b {
			b[k] = few[r.Intn(len(few))]
		}
		if r.Intn(10) > 0 {
			b = append([]byte{0x54, 0x50, 1}, b...)
		}
		checkAny(t, b)
	}
}

// TestAnyModule: modules of all kinds; those that aren't well formed are refused, the others come back.
func TestAnyModule(t *testing.T) {
	r := rand.New(rand.NewSource(40))
	right := rightOnes()
	wrong := slices.Concat(wrongOnes, farOnes)
	taken := 0
	for range 50000 {
		m := api.Module{Maps: r.Perm(4)[:r.Intn(5)]}
		for range r.Intn(8) {
			m.Code = append(m.Code, right[r.Intn(len(right))])
		}
		good := len(m.Code) > 0
		if r.Intn(4) == 0 && len(m.Maps) > 0 {
			m.Maps[r.Intn(len(m.Maps))] = r.Intn(7) - 1
			good = good && mapsFault(m.Maps) < 0
		}
		if r.Intn(4) == 0 && len(m.Code) > 0 {
			m.Code[r.Intn(len(m.Code))] = wrong[r.Intn(len(wrong))]
			good = false
		}
		if !good {
			checkEncode(t, m, nil, api.ErrArg)
			continue
		}
		taken++
		b := join(fields(m))
		checkEncode(t, m, b, api.OK)
		checkTaken(t, b, m)
		checkAny(t, b)
	}
	if taken < 10000 {
		t.Errorf("only %d modules were well formed", taken)
	}
}

// TestLayerOne: Decode's numbers are layer 1's.
func TestLayerOne(t *testing.T) {
	for _, n := range imms {
		b := append([]byte{0x54, 0x50, 1, 0, 1, 0, 0, 0, 8}, leb.PutInt(n)...)
		checkTaken(t, b, api.Module{Code: []api.Inst{{Op: api.OpSet, B: 8, Imm: n}}})
	}
}

func checkSame(t *testing.T, a, b api.Module, want bool) {
	t.Helper()
	if wire.Same(a, b) != want || wire.Same(b, a) != want {
		t.Errorf("P4.3: Same(%v, %v) isn't %v", a, b, want)
	}
	if !wire.Same(a, a) || !wire.Same(b, b) {
		t.Errorf("P4.3: %v or %v isn't the same as itself", a, b)
	}
}

// TestSame: of modules of all kinds, well formed or not.
func TestSame(t *testing.T) {
	m := example()
	checkSame(t, m, example(), true)
	checkSame(t, api.Module{}, api.Module{}, true)
	checkSame(t, api.Module{}, api.Module{Maps: []int{}, Code: []api.Inst{}}, true)
	checkSame(t, api.Module{Maps: []int{}, Code: m.Code}, api.Module{Code: m.Code}, true)
	checkSame(t, api.Module{Maps: []int{-5, -5, 99}, Code: []api.Inst{{Op: 77, D: -1}}}, api.Module{Maps: []int{-5, -5, 99}, Code: []api.Inst{{Op: 77, D: -1}}}, true)
	checkSame(t, api.Module{Code: make([]api.Inst, 100)}, api.Module{Code: make([]api.Inst, 100)}, true)
	for _, other := range []api.Module{
		{}, {Maps: m.Maps}, {Code: m.Code}, {Maps: []int{3}, Code: m.Code}, {Maps: []int{2, 2}, Code: m.Code}, {Maps: []int{2, 0}, Code: m.Code}, {Maps: []int{-2}, Code: m.Code},
		{Maps: m.Maps, Code: m.Code[:1]}, {Maps: m.Maps, Code: m.Code[1:]}, {Maps: m.Maps, Code: []api.Inst{m.Code[1], m.Code[0]}}, {Maps: m.Maps, Code: append(slices.Clone(m.Code), m.Code[1])},
	} {
		checkSame(t, m, other, false)
	}
	checkSame(t, api.Module{Maps: []int{0, 1}, Code: m.Code}, api.Module{Maps: []int{1, 0}, Code: m.Code}, false)
	checkSame(t, api.Module{Maps: []int{0, 1, 2, 3}}, api.Module{Maps: []int{0, 1, 2, 2}}, false)
	for at := range m.Code {
		for _, change := range []api.Inst{{Op: 1}, {D: 1}, {A: 1}, {B: 1}, {Imm: 1}, {Imm: math.MinInt64}} {
			other := example()
			i := &other.Code[at]
			*i = api.Inst{Op: i.Op + change.Op, D: i.D + change.D, A: i.A + change.A, B: i.B + change.B, Imm: i.Imm + change.Imm}
			checkSame(t, m, other, false)
		}
	}
}

// TestSpareRoom: what stands in the spare room of lists is none of theirs.
func TestSpareRoom(t *testing.T) {
	maps, code := []int{2, 3, 0}, append(example().Code, api.Inst{Op: 99})
	m := api.Module{Maps: maps[:1], Code: code[:2]}
	checkSame(t, m, example(), true)
	checkEncode(t, m, packed, api.OK)
	checkTaken(t, append(slices.Clone(packed), 7, 7)[:len(packed)], m)
}

// TestHandedIn: no call changes what it is handed, its spare room included, whether it takes or refuses it.
func TestHandedIn(t *testing.T) {
	for _, many := range []int{0, 1, 2, 4} {
		maps := []int{2, 0, 1, 3, 4, 4}
		code := append(exits(4), wrongOnes[:4]...)
		code[1] = api.Inst{Op: 77}
		m := api.Module{Maps: maps[:many], Code: code[:many]}
		mapsBefore, codeBefore := slices.Clone(maps), slices.Clone(code)
		wire.Encode(m)
		wire.Same(m, api.Module{Maps: maps[:many+1], Code: code[:many+1]})
		wire.Same(m, m)
		if !slices.Equal(maps, mapsBefore) || !slices.Equal(code, codeBefore) {
			t.Error("P4.4: Encode or Same changes what it is handed")
		}
	}
	for _, m := range samples() {
		whole := append(join(fields(m)), 9, 9, 9, 9)
		before := slices.Clone(whole)
		for end := range whole {
			wire.Decode(whole[:end])
		}
		if !bytes.Equal(whole, before) {
			t.Error("P4.4: Decode changes what it is handed")
		}
	}
}

// TestApart: an answer stays as it was, whatever is done to what was handed in, to other answers and to their spare room.
func TestApart(t *testing.T) {
	for _, m := range samples() {
		want := api.Module{Maps: slices.Clone(m.Maps), Code: slices.Clone(m.Code)}
		b := join(fields(m))
		handed := slices.Clone(b)
		first, _, _ := wire.Decode(handed)
		second, _, _ := wire.Decode(handed)
		clear(handed)
		spoilMaps(first.Maps)
		if !slices.Equal(first.Code, want.Code) {
			t.Error("P4.4: Maps and Code share memory")
		}
		spoilCode(first.Code)
		third, _, _ := wire.Decode(b)
		if !wire.Same(second, want) || !wire.Same(third, want) {
			t.Error("P4.4: answers of Decode share memory")
		}
		laid, _ := wire.Encode(m)
		again, _ := wire.Encode(m)
		spoilMaps(m.Maps)
		spoilCode(m.Code)
		if !bytes.Equal(laid, b) || !bytes.Equal(again, b) {
			t.Error("P4.4: an answer of Encode hangs on what it was handed")
		}
		clear(laid[:cap(laid)])
		more, _ := wire.Encode(want)
		if !bytes.Equal(again, b) || !bytes.Equal(more, b) {
			t.Error("P4.4: answers of Encode share memory")
		}
	}
}

func spoilMaps(ms []int) {
	ms = ms[:cap(ms)]
	for k := range ms {
		ms[k] = 99
	}
}

func spoilCode(is []api.Inst) {
	is = is[:cap(is)]
	for k := range is {
		is[k] = api.Inst{Op: 99}
	}
}

// FuzzDecode: any bytes are taken or refused as the chapter says.
func FuzzDecode(f *testing.F) {
	for _, m := range samples() {
		f.Add(join(fields(m)))
	}
	for _, i := range wrongOnes {
		f.Add(join(fields(api.Module{Code: []api.Inst{i}})))
	}
	f.Fuzz(checkAny)
}
