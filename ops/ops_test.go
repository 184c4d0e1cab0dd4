package ops_test

import (
	"math"
	"slices"
	"testing"

	"tappet/api"
	"tappet/ops"
)

var names = []struct {
	op   api.Op
	name string
}{
	{api.OpSet, "set"}, {api.OpAdd, "add"}, {api.OpSub, "sub"}, {api.OpMul, "mul"}, {api.OpDiv, "div"}, {api.OpRem, "rem"},
	{api.OpAnd, "and"}, {api.OpOr, "or"}, {api.OpXor, "xor"}, {api.OpShl, "shl"}, {api.OpShr, "shr"},
	{api.OpLoad, "load"}, {api.OpStore, "store"}, {api.OpField, "field"}, {api.OpMap, "map"}, {api.OpJump, "jump"},
	{api.OpJeq, "jeq"}, {api.OpJne, "jne"}, {api.OpJlt, "jlt"}, {api.OpJge, "jge"}, {api.OpLoop, "loop"}, {api.OpCall, "call"}, {api.OpExit, "exit"},
}

func TestNames(t *testing.T) {
	if len(names) != api.Ops {
		t.Fatalf("%d names", len(names))
	}
	for _, c := range names {
		if got := ops.Name(c.op); got != c.name {
			t.Errorf("P2.1: Name(%d) = %q, want %q", c.op, got, c.name)
		}
		if op, ok := ops.Find(c.name); op != c.op || !ok {
			t.Errorf("P2.1: Find(%q) = %d, %v, want %d", c.name, op, ok, c.op)
		}
		for _, s := range []string{c.name + " ", " " + c.name, c.name + "\x00", c.name[:len(c.name)-1], c.name + c.name, string(c.name[0]-'a'+'A') + c.name[1:]} {
			if op, ok := ops.Find(s); op != 0 || ok {
				t.Errorf("P2.1: Find(%q) = %d, %v", s, op, ok)
			}
		}
	}
	for _, op := range []api.Op{-1, 23, 24, 255, 256, math.MinInt, math.MaxInt} {
		if got := ops.Name(op); got != "" {
			t.Errorf("P2.1: Name(%d) = %q", op, got)
		}
	}
	for _, s := range []string{"", "Exit", "nop", "0", "\xff", "jumpjump", "set add"} {
		if op, ok := ops.Find(s); op != 0 || ok {
			t.Errorf("P2.1: Find(%q) = %d, %v", s, op, ok)
		}
	}
}

// facts are what the layer must tell of a right instruction.
type facts struct {
	source    bool
	reads     string // the registers, a digit each
	writes    int
	has       bool
	far       int
	leads, on bool
}

// imms are the numbers that Imm is given in the tests: the edges of all operations, and their neighbours.
var imms = []int64{math.MinInt64, math.MinInt64 + 1, -256, -5, -1, 0, 1, 2, 3, 4, 5, 6, 7, 8, 9, 254, 255, 256, 257, 1 << 32, math.MaxInt64}

// numbers are what the other fields are given.
var numbers = []int{math.MinInt, -64, -1, 0, 1, 2, 6, 7, 8, 9, 62, 63, 64, 65, 1 << 32, math.MaxInt}

// catalogue is every right instruction whose Imm is one of imms, written down from the chapter's table.
type catalogue map[api.Inst]facts

// eachSource adds i with every source, given what it reads and tells otherwise.
func (c catalogue) eachSource(i api.Inst, first bool, f facts) {
	f.source = true
	for _, n := range imms {
		i.B, i.Imm = 8, n
		f.reads = digits(i.A, first, 0, false)
		c[i] = f
	}
	for b := range 8 {
		i.B, i.Imm = b, 0
		f.reads = digits(i.A, first, b, true)
		c[i] = f
	}
}

func digits(a int, first bool, b int, second bool) string {
	out := ""
	for r := range 8 {
		if first && r == a || second && r == b {
			out += string(rune('0' + r))
		}
	}
	return out
}

func (c catalogue) addCalculations() {
	for d := range 8 {
		f := facts{writes: d, has: true, on: true}
		c.eachSource(api.Inst{Op: api.OpSet, D: d}, false, f)
		c.eachSource(api.Inst{Op: api.OpLoad, D: d}, false, f)
		for a := range 8 {
			for _, op := range []api.Op{1, 2, 3, 4, 5, 6, 7, 8, 9, 10} {
				c.eachSource(api.Inst{Op: op, D: d, A: a}, true, f)
			}
		}
		for _, n := range []int64{0, 1} {
			c[api.Inst{Op: api.OpField, D: d, Imm: n}] = f
		}
		for _, n := range []int64{0, 1, 2, 3} {
			c[api.Inst{Op: api.OpMap, D: d, Imm: n}] = f
		}
	}
	for a := range 8 {
		c.eachSource(api.Inst{Op: api.OpStore, A: a}, true, facts{on: true})
	}
}

func (c catalogue) addWays() {
	for d := range 64 {
		c[api.Inst{Op: api.OpJump, D: d}] = facts{far: d + 1, leads: true}
		for a := range 8 {
			for _, op := range []api.Op{api.OpJeq, api.OpJne, api.OpJlt, api.OpJge} {
				c.eachSource(api.Inst{Op: op, D: d, A: a}, true, facts{far: d + 1, leads: true, on: true})
			}
			for _, n := range imms {
				if d > 0 && n >= 1 && n <= 255 {
					c[api.Inst{Op: api.OpLoop, D: d, A: a, Imm: n}] = facts{reads: digits(a, true, 0, false), far: -d, leads: true, on: true}
				}
			}
		}
	}
	for n := range int64(7) {
		c[api.Inst{Op: api.OpCall, Imm: n}] = facts{writes: 0, has: true, on: true}
	}
	for a := range 8 {
		c[api.Inst{Op: api.OpExit, A: a}] = facts{reads: digits(a, true, 0, false)}
	}
}

func everyRight() catalogue {
	c := catalogue{}
	c.addCalculations()
	c.addWays()
	return c
}

// check holds all that is told of i against the facts, which are zero where i isn't right.
func check(t *testing.T, i api.Inst, f facts, right bool) {
	t.Helper()
	if got := ops.Right(i); got != right {
		t.Errorf("P2.2: Right(%v) = %v", i, got)
	}
	if got := ops.Source(i); got != f.source {
		t.Errorf("P2.2: Source(%v) = %v", i, got)
	}
	reads := ""
	for _, r := range ops.Reads(i) {
		reads += string(rune('0' + r))
	}
	if reads != f.reads {
		t.Errorf("P2.3: Reads(%v) = %s, want %s", i, reads, f.reads)
	}
	if r, ok := ops.Writes(i); r != f.writes || ok != f.has {
		t.Errorf("P2.3: Writes(%v) = %d, %v, want %d, %v", i, r, ok, f.writes, f.has)
	}
	if far, leads, on := ops.Goes(i); far != f.far || leads != f.leads || on != f.on {
		t.Errorf("P2.4: Goes(%v) = %d, %v, %v, want %d, %v, %v", i, far, leads, on, f.far, f.leads, f.on)
	}
}

func TestEveryRight(t *testing.T) {
	for i, f := range everyRight() {
		check(t, i, f, true)
	}
}

// TestEdges: at all edges of all fields together, right are those of the catalogue alone.
func TestEdges(t *testing.T) {
	all := everyRight()
	operations := []api.Op{math.MinInt, -1, 23, 24, math.MaxInt}
	for op := range api.Op(api.Ops) {
		operations = append(operations, op)
	}
	for _, op := range operations {
		for _, d := range numbers {
			for _, a := range numbers {
				for _, b := range numbers {
					for _, imm := range imms {
						i := api.Inst{Op: op, D: d, A: a, B: b, Imm: imm}
						f, right := all[i]
						check(t, i, f, right)
					}
				}
			}
		}
	}
}

func TestLoopBounds(t *testing.T) {
	for n := int64(-300); n <= 600; n++ {
		if got := ops.Right(api.Inst{Op: api.OpLoop, D: 1, A: 3, Imm: n}); got != (n >= 1 && n <= 255) {
			t.Errorf("P2.2: Right of a loop of %d = %v", n, got)
		}
	}
}

func TestExamples(t *testing.T) {
	for _, c := range []struct {
		i     api.Inst
		f     facts
		right bool
	}{
		{api.Inst{Op: api.OpSet, D: 3, B: 8, Imm: -5}, facts{source: true, writes: 3, has: true, on: true}, true},
		{api.Inst{Op: api.OpSet, D: 3, A: 1}, facts{}, false},
		{api.Inst{Op: api.OpAdd, D: 8}, facts{}, false},
		{api.Inst{Op: api.OpSet, B: 2, Imm: 1}, facts{}, false},
		{api.Inst{Op: api.OpLoop, Imm: 1}, facts{}, false},
		{api.Inst{Op: api.OpAdd, D: 1, A: 2, B: 2}, facts{source: true, reads: "2", writes: 1, has: true, on: true}, true},
		{api.Inst{Op: api.OpStore, A: 5, B: 1}, facts{source: true, reads: "15", on: true}, true},
		{api.Inst{Op: api.OpCall, Imm: 2}, facts{has: true, on: true}, true},
		{api.Inst{Op: api.OpExit}, facts{reads: "0"}, true},
		{api.Inst{Op: api.OpJump, D: 3}, facts{far: 4, leads: true}, true},
		{api.Inst{Op: api.OpLoop, D: 2, Imm: 9}, facts{reads: "0", far: -2, leads: true, on: true}, true},
	} {
		check(t, c.i, c.f, c.right)
	}
}

func TestRightOfSeveral(t *testing.T) {
	good := api.Inst{Op: api.OpExit, A: 7}
	bad := api.Inst{Op: api.OpExit, A: 8}
	for _, c := range []struct {
		is   []api.Inst
		want bool
	}{
		{nil, true},
		{[]api.Inst{}, true},
		{[]api.Inst{good}, true},
		{[]api.Inst{{}, good, good}, true},
		{[]api.Inst{bad}, false},
		{[]api.Inst{bad, good}, false},
		{[]api.Inst{good, bad}, false},
		{[]api.Inst{good, bad, good}, false},
		{slices.Repeat([]api.Inst{good}, 1000), true},
		{append(slices.Repeat([]api.Inst{good}, 1000), bad), false},
	} {
		if got := ops.Right(c.is...); got != c.want {
			t.Errorf("P2.2: Right of %d = %v", len(c.is), got)
		}
	}
	if !ops.Right() {
		t.Error("P2.2: Right of none")
	}
}

// TestApart: what is handed in stays as it was, its spare room too, and no two answers share memory.
func TestApart(t *testing.T) {
	whole := slices.Repeat([]api.Inst{{Op: api.OpAdd, D: 1, A: 2, B: 3}}, 8)
	before := slices.Clone(whole)
	ops.Right(whole[:4]...)
	if !slices.Equal(whole, before) {
		t.Error("P2.5: Right changes what it is handed")
	}
	for _, i := range []api.Inst{
		{Op: api.OpAdd, D: 1, A: 2, B: 3},
		{Op: api.OpAdd, D: 1, A: 3, B: 3},
		{Op: api.OpSet, D: 1, B: 5},
		{Op: api.OpSet, D: 1, B: 8, Imm: 5},
		{Op: api.OpExit, A: 4},
		{Op: api.OpCall},
		{Op: -1},
	} {
		first, second := ops.Reads(i), ops.Reads(i)
		want := slices.Clone(second)
		first = first[:cap(first)]
		for k := range first {
			first[k] = 99
		}
		if !slices.Equal(second, want) || !slices.Equal(ops.Reads(i), want) {
			t.Errorf("P2.5: two answers of Reads(%v) share memory", i)
		}
	}
}
