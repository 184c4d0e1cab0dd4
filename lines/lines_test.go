package lines_test

import (
	"fmt"
	"math"
	"math/big"
	"regexp"
	"slices"
	"strings"
	"testing"

	"tappet/api"
	"tappet/lines"
)

// written is a right instruction and its line.
type written struct {
	i    api.Inst
	line string
}

// edges are the numbers that a source is given in the tests.
var edges = []int64{math.MinInt64, math.MinInt64 + 1, -1 << 32, -10, -9, -1, 0, 1, 7, 8, 9, 10, 63, 64, 100, 255, 1 << 32, math.MaxInt64 - 1, math.MaxInt64}

// sources are all registers and the edges as sources: B, Imm and the word.
func sources() (out []written) {
	for r := range 8 {
		out = append(out, written{api.Inst{B: r}, fmt.Sprintf("r%d", r)})
	}
	for _, n := range edges {
		out = append(out, written{api.Inst{B: 8, Imm: n}, fmt.Sprintf("%d", n)})
	}
	return out
}

func calculations() (out []written) {
	names := []string{"add", "sub", "mul", "div", "rem", "and", "or", "xor", "shl", "shr"}
	for d := range 8 {
		for _, s := range sources() {
			out = append(out,
				written{api.Inst{Op: api.OpSet, D: d, B: s.i.B, Imm: s.i.Imm}, fmt.Sprintf("set r%d %s", d, s.line)},
				written{api.Inst{Op: api.OpLoad, D: d, B: s.i.B, Imm: s.i.Imm}, fmt.Sprintf("load r%d %s", d, s.line)},
				written{api.Inst{Op: api.OpStore, A: d, B: s.i.B, Imm: s.i.Imm}, fmt.Sprintf("store r%d %s", d, s.line)})
			for a := range 8 {
				for k, name := range names {
					i := api.Inst{Op: api.OpAdd + api.Op(k), D: d, A: a, B: s.i.B, Imm: s.i.Imm}
					out = append(out, written{i, fmt.Sprintf("%s r%d r%d %s", name, d, a, s.line)})
				}
			}
		}
		for n := range int64(2) {
			out = append(out, written{api.Inst{Op: api.OpField, D: d, Imm: n}, fmt.Sprintf("field r%d %d", d, n)})
		}
		for n := range int64(4) {
			out = append(out, written{api.Inst{Op: api.OpMap, D: d, Imm: n}, fmt.Sprintf("map r%d %d", d, n)})
		}
	}
	return out
}

func ways() (out []written) {
	for d := range 64 {
		out = append(out, written{api.Inst{Op: api.OpJump, D: d}, fmt.Sprintf("jump %d", d)})
		for a := range 8 {
			for _, s := range sources() {
				for k, name := range []string{"jeq", "jne", "jlt", "jge"} {
					i := api.Inst{Op: api.OpJeq + api.Op(k), D: d, A: a, B: s.i.B, Imm: s.i.Imm}
					out = append(out, written{i, fmt.Sprintf("%s r%d %s %d", name, a, s.line, d)})
				}
			}
			for n := int64(1); n <= 255 && d > 0; n++ {
				out = append(out, written{api.Inst{Op: api.OpLoop, D: d, A: a, Imm: n}, fmt.Sprintf("loop r%d %d %d", a, d, n)})
			}
		}
	}
	for n := range int64(7) {
		out = append(out, written{api.Inst{Op: api.OpCall, Imm: n}, fmt.Sprintf("call %d", n)})
	}
	for a := range 8 {
		out = append(out, written{api.Inst{Op: api.OpExit, A: a}, fmt.Sprintf("exit r%d", a)})
	}
	return out
}

// catalogue is every right instruction whose source, where that is a number, is one of edges, with its line as the chapter's table says it.
func catalogue() []written {
	return append(calculations(), ways()...)
}

// few is the catalogue thinned out, with every operation in it.
func few() (out []written) {
	all := catalogue()
	seen := map[api.Op]int{}
	for k, w := range all {
		if seen[w.i.Op] < 3 || k%997 == 0 {
			out = append(out, w)
		}
		seen[w.i.Op]++
	}
	return out
}

func checkParse(t *testing.T, s string, want []api.Inst, line int, e api.Errno) {
	t.Helper()
	is, n, got := lines.Parse(s)
	if !slices.Equal(is, want) || n != line || got != e {
		t.Errorf("P3.2: Parse(%q) = %v, %d, %d, want %v, %d, %d", s, is, n, got, want, line, e)
	}
}

func checkPrint(t *testing.T, want string, e api.Errno, is ...api.Inst) {
	t.Helper()
	if s, got := lines.Print(is...); s != want || got != e {
		t.Errorf("P3.1: Print(%v) = %q, %d, want %q, %d", is, s, got, want, e)
	}
}

func TestEveryLine(t *testing.T) {
	seen := map[api.Op]bool{}
	for _, w := range catalogue() {
		checkPrint(t, w.line+"\n", api.OK, w.i)
		checkParse(t, w.line+"\n", []api.Inst{w.i}, 0, api.OK)
		seen[w.i.Op] = true
	}
	if len(seen) != api.Ops {
		t.Errorf("%d operations in the catalogue", len(seen))
	}
}

// TestAllAtOnce: a text is its lines in order, however many they are.
func TestAllAtOnce(t *testing.T) {
	var b strings.Builder
	var is []api.Inst
	for _, w := range catalogue() {
		is = append(is, w.i)
		b.WriteString(w.line + "\n")
	}
	if s, e := lines.Print(is...); s != b.String() || e != api.OK {
		t.Errorf("P3.1: the whole catalogue is printed wrongly, %d", e)
	}
	if got, n, e := lines.Parse(b.String()); !slices.Equal(got, is) || n != 0 || e != api.OK {
		t.Errorf("P3.2: the whole catalogue is parsed wrongly, %d, %d", n, e)
	}
}

func TestNone(t *testing.T) {
	checkPrint(t, "", api.OK)
	checkPrint(t, "", api.OK, []api.Inst{}...)
	checkParse(t, "", nil, 0, api.OK)
}

func TestExamples(t *testing.T) {
	checkPrint(t, "set r0 5\nadd r1 r2 r3\nexit r1\n", api.OK,
		api.Inst{Op: api.OpSet, B: 8, Imm: 5}, api.Inst{Op: api.OpAdd, D: 1, A: 2, B: 3}, api.Inst{Op: api.OpExit, A: 1})
	checkPrint(t, "jlt r4 -1 2\n", api.OK, api.Inst{Op: api.OpJlt, D: 2, A: 4, B: 8, Imm: -1})
	checkPrint(t, "store r1 r2\n", api.OK, api.Inst{Op: api.OpStore, A: 1, B: 2})
	checkPrint(t, "loop r7 3 10\n", api.OK, api.Inst{Op: api.OpLoop, D: 3, A: 7, Imm: 10})
	checkPrint(t, "", api.ErrForm, api.Inst{Op: api.OpSet, D: 8})
	checkParse(t, "exit r0\n", []api.Inst{{Op: api.OpExit}}, 0, api.OK)
	for _, s := range []string{
		"exit r0", "exit  r0\n", "set r0 05\n", "set r0 +5\n",
		"set r0 9223372036854775808\n", "set r0 -0\n", "jump 64\n", "call r0\n",
	} {
		checkParse(t, s, nil, 1, api.ErrText)
	}
	checkParse(t, "exit r0\n\n", nil, 2, api.ErrText)
}

// wrong are instructions that aren't right: of no operation, with a field out of its bounds, with something left over.
var wrong = []api.Inst{
	{Op: -1}, {Op: 23}, {Op: math.MinInt}, {Op: math.MaxInt},
	{Op: api.OpSet, D: 8}, {Op: api.OpSet, D: -1}, {Op: api.OpSet, A: 1}, {Op: api.OpSet, B: 9}, {Op: api.OpSet, B: -1}, {Op: api.OpSet, B: 2, Imm: 1},
	{Op: api.OpAdd, D: 8}, {Op: api.OpAdd, A: 8}, {Op: api.OpShr, A: -1}, {Op: api.OpShr, Imm: 1},
	{Op: api.OpLoad, A: 1}, {Op: api.OpStore, D: 1}, {Op: api.OpStore, A: 8},
	{Op: api.OpField, Imm: 2}, {Op: api.OpField, B: 8}, {Op: api.OpField, Imm: -1}, {Op: api.OpMap, Imm: 4},
	{Op: api.OpJump, D: 64}, {Op: api.OpJump, D: -1}, {Op: api.OpJump, A: 1}, {Op: api.OpJump, Imm: 1},
	{Op: api.OpJeq, D: 64}, {Op: api.OpJge, A: 8}, {Op: api.OpJlt, B: 9}, {Op: api.OpJne, Imm: 3},
	{Op: api.OpLoop, Imm: 1}, {Op: api.OpLoop, D: 1}, {Op: api.OpLoop, D: 1, Imm: 256}, {Op: api.OpLoop, D: 64, Imm: 1}, {Op: api.OpLoop, D: 1, B: 8, Imm: 1},
	{Op: api.OpCall, Imm: 7}, {Op: api.OpCall, Imm: -1}, {Op: api.OpCall, D: 1}, {Op: api.OpCall, B: 8},
	{Op: api.OpExit, A: 8}, {Op: api.OpExit, D: 1}, {Op: api.OpExit, Imm: 1}, {Op: api.OpExit, B: 8},
}

// TestPrintRefuses: one that isn't right, alone, ahead of, between and behind right ones.
func TestPrintRefuses(t *testing.T) {
	good := api.Inst{Op: api.OpExit, A: 7}
	for _, bad := range wrong {
		checkPrint(t, "", api.ErrForm, bad)
		checkPrint(t, "", api.ErrForm, bad, good, good)
		checkPrint(t, "", api.ErrForm, good, bad, good)
		checkPrint(t, "", api.ErrForm, good, good, bad)
		checkPrint(t, "", api.ErrForm, bad, good, bad)
	}
}

// wrongLines are no instruction's.
var wrongLines = []string{
	"", " ", "  ", "\t", "\r", "\x00", "\xff", "r0", "5", "nop", "nop r0", "#", "set,r0,5",
	// the name
	"Exit r0", "EXIT r0", "exi r0", "exitr0", "exits r0", "exit\tr0", "exit\x00 r0", "22 r0", "r0 exit", "ехit r0",
	// the blanks
	" exit r0", "exit r0 ", "exit  r0", "exit r0\r", "\rexit r0", "exit r0\t", "exit\u00a0r0", " call 0", "call  0", "call 0 ", "add r1  r2 r3", "add r1 r2  r3",
	// the number of words
	"exit", "exit ", "exit r0 r1", "exit r0 0", "call", "call ", "call 0 0", "jump", "jump 1 1", "set", "set r0", "set r0 ", "set r0 1 2", "set r0 r1 r2",
	"load r0", "load r0 r1 r2", "store r0", "store r0 1 2", "add r0 r1", "add r0 r1 ", "add r0 r1 r2 r3", "add r0 5", "field r0", "field r0 0 0", "map r0", "map r0 0 0",
	"jeq r0 r1", "jeq r0 r1 1 1", "jge 1", "loop r0 1", "loop r0 1 1 1", "loop 1 1",
	// registers
	"exit r8", "exit r9", "exit r-1", "exit r+1", "exit r00", "exit r01", "exit r10", "exit R0", "exit r", "exit rr0", "exit r 0", "exit 0", "exit r0x", "exit r-0",
	"exit r18446744073709551616", "exit r4294967296", "exit r9223372036854775807", "exit -1",
	"set 0 5", "set r8 5", "set r0 r8", "set r0 r9", "set r0 r-1", "set r0 r00", "set r0 rr1", "set r0 R1", "set r0 r", "add r0 1 r2", "add 0 r1 r2", "add r0 r1 r8", "add r8 r1 r2", "add r0 r8 r2",
	"load 1 2", "load r0 r8", "store 1 r2", "store r8 1", "field 0 0", "field r8 0", "map 1 1", "map r8 1", "jeq 1 r2 3", "jeq r8 r2 3", "jeq r1 r8 3", "loop 1 1 1", "loop r8 1 1",
	// numbers
	"set r0 +5", "set r0 05", "set r0 -05", "set r0 -0", "set r0 00", "set r0 +0", "set r0 --5", "set r0 -", "set r0 +", "set r0 5-", "set r0 0x5", "set r0 1e3", "set r0 1_000", "set r0 5.0", "set r0 0b1", "set r0 0o7",
	"set r0 9223372036854775808", "set r0 -9223372036854775809", "set r0 18446744073709551615", "set r0 18446744073709551616", "set r0 18446744073709551621", "set r0 99999999999999999999999999999999",
	"set r0 ٥", "set r0 ５", "set r0 five", "set r0 '5'", "set r0 5;", "set r0 5\x00",
	"field r0 2", "field r0 -1", "field r0 r1", "field r0 00", "field r0 01", "field r0 +1", "field r0 4294967297", "map r0 4", "map r0 -1", "map r0 r0", "map r0 01",
	"jump 64", "jump -1", "jump r0", "jump 00", "jump 01", "jump +1", "jump -0", "jump 4294967296", "jump 18446744073709551616",
	"jeq r0 0 64", "jeq r0 0 -1", "jeq r0 0 r1", "jeq r0 0 01", "jne r0 0 64", "jlt r0 +1 0", "jge r0 -0 0", "jge r0 0 +1",
	"loop r0 0 1", "loop r0 64 1", "loop r0 -1 1", "loop r0 1 0", "loop r0 1 256", "loop r0 1 -1", "loop r0 r1 1", "loop r0 1 r1", "loop r0 01 1", "loop r0 1 01", "loop r0 +1 1", "loop r0 1 4294967297",
	"call 7", "call -1", "call r0", "call 00", "call 06", "call +1", "call -0", "call 4294967296",
}

// TestParseRefuses: a wrong line alone, ahead of, between and behind right ones, and ahead of another wrong one.
func TestParseRefuses(t *testing.T) {
	for _, bad := range wrongLines {
		checkParse(t, bad+"\n", nil, 1, api.ErrText)
		checkParse(t, bad+"\nexit r0\nexit r1\n", nil, 1, api.ErrText)
		checkParse(t, "exit r0\n"+bad+"\nexit r1\n", nil, 2, api.ErrText)
		checkParse(t, "exit r0\nexit r1\n"+bad+"\n", nil, 3, api.ErrText)
		checkParse(t, "exit r0\n"+bad+"\n"+bad+"\n", nil, 2, api.ErrText)
		checkParse(t, strings.Repeat("call 6\n", 1500)+bad+"\n\n", nil, 1501, api.ErrText)
	}
}

// TestLastLine: what has no line feed behind it is a line of its own, and none's.
func TestLastLine(t *testing.T) {
	for _, w := range few() {
		checkParse(t, w.line, nil, 1, api.ErrText)
		checkParse(t, "jump 0\n"+w.line, nil, 2, api.ErrText)
		checkParse(t, "\n"+w.line, nil, 1, api.ErrText)
		checkParse(t, w.line+"\n\n", nil, 2, api.ErrText)
		checkParse(t, w.line+"\r\n", nil, 1, api.ErrText)
		checkParse(t, w.line+"\n ", nil, 2, api.ErrText)
	}
	for _, s := range []string{"x", " ", "\x00", "exit r8", "exit"} {
		checkParse(t, s, nil, 1, api.ErrText)
		checkParse(t, "call 1\ncall 2\n"+s, nil, 3, api.ErrText)
		checkParse(t, "call 1\ncall 7\n"+s, nil, 2, api.ErrText)
	}
}

// TestLongLine: a line of many bytes is refused as soon as a short one.
func TestLongLine(t *testing.T) {
	for _, c := range []string{" ", "0", "r", "set ", "set r0 0", "exit r0 ", "\xff", "-", "9"} {
		checkParse(t, strings.Repeat(c, 1<<20)+"\n", nil, 1, api.ErrText)
		checkParse(t, "set r0 "+strings.Repeat(c, 1<<20)+"\n", nil, 1, api.ErrText)
		checkParse(t, "exit r"+strings.Repeat(c, 1<<20)+"0\n", nil, 1, api.ErrText)
	}
	checkParse(t, strings.Repeat("\n", 1<<20), nil, 1, api.ErrText)
}

// The rules tell what a line is in another way than the package does: by its form, and by bounds of its numbers.
var rules = []struct {
	form        *regexp.Regexp
	least, most []string // of the numbers that the form takes out, in order
}{
	{regexp.MustCompile(`^(?:set|load|store) r[0-7] r[0-7]$`), nil, nil},
	{regexp.MustCompile(`^(?:set|load|store) r[0-7] (0|-?[1-9][0-9]*)$`), []string{"-9223372036854775808"}, []string{"9223372036854775807"}},
	{regexp.MustCompile(`^(?:add|sub|mul|div|rem|and|or|xor|shl|shr) r[0-7] r[0-7] r[0-7]$`), nil, nil},
	{regexp.MustCompile(`^(?:add|sub|mul|div|rem|and|or|xor|shl|shr) r[0-7] r[0-7] (0|-?[1-9][0-9]*)$`), []string{"-9223372036854775808"}, []string{"9223372036854775807"}},
	{regexp.MustCompile(`^(?:field r[0-7] [01]|map r[0-7] [0-3]|call [0-6]|exit r[0-7])$`), nil, nil},
	{regexp.MustCompile(`^jump (0|[1-9][0-9]*)$`), []string{"0"}, []string{"63"}},
	{regexp.MustCompile(`^(?:jeq|jne|jlt|jge) r[0-7] r[0-7] (0|[1-9][0-9]*)$`), []string{"0"}, []string{"63"}},
	{regexp.MustCompile(`^(?:jeq|jne|jlt|jge) r[0-7] (0|-?[1-9][0-9]*) (0|[1-9][0-9]*)$`), []string{"-9223372036854775808", "0"}, []string{"9223372036854775807", "63"}},
	{regexp.MustCompile(`^loop r[0-7] ([1-9][0-9]*) ([1-9][0-9]*)$`), []string{"1", "1"}, []string{"63", "255"}},
}

func within(n, least, most string) bool {
	a, _ := new(big.Int).SetString(n, 10)
	b, _ := new(big.Int).SetString(least, 10)
	c, _ := new(big.Int).SetString(most, 10)
	return b.Cmp(a) <= 0 && a.Cmp(c) <= 0
}

func isLine(s string) bool {
	for _, r := range rules {
		m := r.form.FindStringSubmatch(s)
		ok := m != nil
		for k := 0; ok && k < len(r.least); k++ {
			ok = within(m[k+1], r.least[k], r.most[k])
		}
		if ok {
			return true
		}
	}
	return false
}

// firstWrong is the number of the first line that isn't one by the rules, 0 if there is none.
func firstWrong(s string) int {
	pieces := strings.Split(s, "\n")
	last := len(pieces) - 1
	for k, p := range pieces[:last] {
		if !isLine(p) {
			return k + 1
		}
	}
	if pieces[last] != "" {
		return last + 1
	}
	return 0
}

// checkText holds Parse against the rules, and what it takes against Print.
func checkText(t *testing.T, s string) {
	t.Helper()
	is, n, e := lines.Parse(s)
	if want := firstWrong(s); n != want || (e == api.OK) != (want == 0) {
		t.Errorf("P3.2: Parse(%q) = %v, %d, %d, want line %d", s, is, n, e, want)
	}
	if e != api.OK {
		if len(is) != 0 || e != api.ErrText {
			t.Errorf("P3.2: Parse(%q) = %v, %d, %d", s, is, n, e)
		}
		return
	}
	if back, e := lines.Print(is...); back != s || e != api.OK {
		t.Errorf("P3.3: Parse takes %q, which Print writes %q, %d", s, back, e)
	}
	if len(is) != strings.Count(s, "\n") {
		t.Errorf("P3.2: Parse(%q) = %v", s, is)
	}
}

// TestNearLines: a text that is one byte off a right one is taken just where the rules say so.
func TestNearLines(t *testing.T) {
	near := few()
	for _, w := range near {
		s := w.line + "\n"
		for at := range s {
			checkText(t, s[:at]+s[at+1:])
			for _, c := range []byte("0179r -+x\n\r\t\x00\x80\xff") {
				checkText(t, s[:at]+string([]byte{c})+s[at:])
				checkText(t, s[:at]+string([]byte{c})+s[at+1:])
			}
		}
		for _, v := range near[:5] {
			checkText(t, s+v.line+"\n")
			checkText(t, s+v.line)
			checkText(t, s+"\n"+v.line+"\n")
		}
	}
}

// TestMixedWords: every few words together are taken just where the rules say so.
func TestMixedWords(t *testing.T) {
	words := []string{"set", "add", "shr", "load", "store", "field", "map", "jump", "jge", "loop", "call", "exit", "r0", "r7", "r8", "0", "1", "-1", "63", "64", "256", ""}
	for _, a := range words {
		checkText(t, a+"\n")
		for _, b := range words {
			checkText(t, a+" "+b+"\n")
			for _, c := range words {
				checkText(t, a+" "+b+" "+c+"\n")
				for _, d := range words {
					checkText(t, a+" "+b+" "+c+" "+d+"\n")
				}
			}
		}
	}
}

// TestNumbers: every number of three digits and every one near a bound, in each place that a number has.
func TestNumbers(t *testing.T) {
	var ns []string
	for n := -300; n <= 300; n++ {
		ns = append(ns, fmt.Sprint(n))
	}
	for _, far := range []uint{31, 32, 63, 64, 65} {
		for d := int64(-70); d <= 70; d++ {
			n := new(big.Int).Add(new(big.Int).Lsh(big.NewInt(1), far), big.NewInt(d))
			ns = append(ns, n.String(), "-"+n.String())
		}
	}
	for _, n := range ns {
		for _, form := range []string{"set r1 %s", "load r1 %s", "store r1 %s", "or r1 r2 %s", "field r3 %s", "map r4 %s", "jump %s", "jne r1 %s 5", "jne r1 r5 %s", "jlt r1 -7 %s", "loop r1 %s 9", "loop r1 9 %s", "call %s", "exit r%s", "set r%s 1", "set r1 r%s", "xor r1 r%s 1"} {
			checkText(t, fmt.Sprintf(form, n)+"\n")
		}
	}
}

// TestApart: what is handed in stays as it was, its spare room too, and no two answers share memory.
func TestApart(t *testing.T) {
	whole := slices.Repeat([]api.Inst{{Op: api.OpAdd, D: 1, A: 2, B: 3}}, 8)
	before := slices.Clone(whole)
	lines.Print(whole[:4]...)
	if !slices.Equal(whole, before) {
		t.Error("P3.3: Print changes what it is handed")
	}
	whole[4].D = 9
	lines.Print(whole...)
	before[4].D = 9
	if !slices.Equal(whole, before) {
		t.Error("P3.3: Print changes what it refuses")
	}
	for _, s := range []string{"exit r0\n", "exit r0\nexit r1\nexit r2\n", "set r0 5\nadd r1 r2 r3\nexit r1\njump 3\ncall 6\n"} {
		first, _, _ := lines.Parse(s)
		second, _, _ := lines.Parse(s)
		want := slices.Clone(second)
		first = first[:cap(first)]
		for k := range first {
			first[k] = api.Inst{Op: 99}
		}
		again, _, _ := lines.Parse(s)
		if !slices.Equal(second, want) || !slices.Equal(again, want) {
			t.Errorf("P3.3: two answers of Parse(%q) share memory", s)
		}
	}
}

// FuzzParse: any bytes are taken just where the rules say so.
func FuzzParse(f *testing.F) {
	for _, s := range wrongLines {
		f.Add(s + "\n")
	}
	for _, w := range few() {
		f.Add(w.line + "\n")
	}
	f.Add("")
	f.Add("set r0 5\nadd r1 r2 r3\nexit r1")
	f.Fuzz(checkText)
}
