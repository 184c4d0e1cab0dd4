package trace_test

import (
	"fmt"
	"math"
	"math/rand"
	"reflect"
	"slices"
	"strings"
	"testing"

	"tappet/api"
	"tappet/trace"
)

// shape is a row of the chapter's table: a mark, its name, and the letters of its line, ahead of those of an eviction.
type shape struct {
	mark    api.Mark
	name    string
	letters string
}

var shapes = []shape{
	{1, "call", "tc"}, {2, "return", "tcxn"}, {3, "apply", "tfcgemokwybr"}, {4, "accept", "tche"}, {5, "take", "the"}, {6, "enter", "thepv"},
	{7, "ran", "tepvan"}, {8, "note", "tepvan"}, {9, "done", "thepvan"}, {10, "drop", "the"}, {11, "publish", "thpv"}, {12, "loaded", "tp"}, {13, "retired", "tp"},
	{14, "closed", "t"}, {15, "end", "t"}, {16, "ask", "tepvamokw"}, {17, "back", "tepvaybr"},
}

// paths are the fields that the letters stand for.
var paths = map[rune]string{
	't': "Task", 'f': "From", 'c': "Cmd", 'g': "Tag", 'e': "Event", 'h': "Hook", 'p': "Prog", 'v': "Version", 'a': "Pc", 'n': "Val", 'x': "E",
	'm': "Item.Map", 'o': "Item.Op", 'k': "Item.Key", 'w': "Item.Val", 'y': "Res.E", 'b': "Res.Found", 'r': "Res.Val", 'O': "Res.OutKey", 'V': "Res.OutVal",
}

// signs are all letters, in the chapter's order.
const signs = "tfcgehpvanxmokwybrOV"

// tells: has the mark's line a Res?
func (s shape) tells() bool {
	return strings.HasSuffix(s.letters, "ybr")
}

// at is the field of a letter in an entry.
func at(e *api.Entry, letter rune) reflect.Value {
	v := reflect.ValueOf(e).Elem()
	for _, name := range strings.Split(paths[letter], ".") {
		v = v.FieldByName(name)
	}
	return v
}

// numbers are the ordinary and the farthest numbers of a letter's field, as they are written.
func numbers(letter rune) []string {
	switch at(&api.Entry{}, letter).Kind() {
	case reflect.Bool:
		return []string{"0", "1"}
	case reflect.Uint64:
		return []string{"0", "1", "9", "10", "4096", "9223372036854775807", "9223372036854775808", "18446744073709551614", "18446744073709551615"}
	}
	return []string{"0", "1", "-1", "9", "-10", "4096", "-2147483649", "9223372036854775806", "9223372036854775807", "-9223372036854775807", "-9223372036854775808"}
}

// put lays a number into the field of a letter.
func put(t *testing.T, e *api.Entry, letter rune, number string) {
	t.Helper()
	v := at(e, letter)
	var n int64
	var u uint64
	var err error
	switch v.Kind() {
	case reflect.Bool:
		v.SetBool(number == "1")
		return
	case reflect.Uint64:
		_, err = fmt.Sscan(number, &u)
		v.SetUint(u)
	default:
		_, err = fmt.Sscan(number, &n)
		v.SetInt(n)
	}
	if err != nil {
		t.Fatalf("%c%s: %v", letter, number, err)
	}
}

// written is a plain entry and its line.
type written struct {
	e    api.Entry
	line string
}

// write is the plain entry of a mark with these numbers, by letter, 0 where none is said; of an eviction, where O or V is said, or out.
func (s shape) write(t *testing.T, ns map[rune]string, out bool) written {
	t.Helper()
	w := written{api.Entry{What: s.mark}, s.name}
	letters := s.letters
	if out {
		w.e.Res.Out = true
		letters += "OV"
	}
	for _, letter := range letters {
		n := ns[letter]
		if n == "" {
			n = "0"
		}
		put(t, &w.e, letter, n)
		w.line += " " + string(letter) + n
	}
	return w
}

// drawn is a source of numbers, the same ones for the same seed.
func drawn(seed int64) func(below int) int {
	return rand.New(rand.NewSource(seed)).Intn
}

// some is a plain entry of some mark, of numbers as they come.
func some(t *testing.T, source func(below int) int) written {
	t.Helper()
	s := shapes[source(len(shapes))]
	ns := map[rune]string{}
	for _, letter := range s.letters + "OV" {
		if many := numbers(letter); source(3) > 0 {
			ns[letter] = many[source(len(many))]
		}
		if source(3) == 0 && letter != 'b' {
			ns[letter] = fmt.Sprint(source(20))
		}
	}
	return s.write(t, ns, s.tells() && source(3) == 0)
}

// edges are the plain entries of every mark with each number of each field alone, and with all fields at once.
func edges(t *testing.T) (ws []written) {
	t.Helper()
	for _, s := range shapes {
		for _, out := range []bool{false, true}[:1+strings.Count(s.letters, "b")] {
			letters := s.letters
			if out {
				letters += "OV"
			}
			ws = append(ws, s.write(t, nil, out))
			first, last := map[rune]string{}, map[rune]string{}
			for k, letter := range letters {
				many := numbers(letter)
				for _, n := range many {
					ws = append(ws, s.write(t, map[rune]string{letter: n}, out))
				}
				first[letter], last[letter] = many[1], many[len(many)-1-k%2]
			}
			ws = append(ws, s.write(t, first, out), s.write(t, last, out))
		}
	}
	return ws
}

// left are entries of every mark with one thing that isn't written for it.
func left(t *testing.T) (es []api.Entry) {
	t.Helper()
	for _, s := range shapes {
		for _, w := range []written{s.write(t, nil, false), s.write(t, map[rune]string{'t': "3", 'e': "5", 'c': "1"}, false)} {
			es = append(es, besides(t, s, w.e)...)
		}
	}
	return es
}

// besides are the entry with each field that isn't written for it other than zero, one at a time.
func besides(t *testing.T, s shape, base api.Entry) (es []api.Entry) {
	t.Helper()
	for _, letter := range signs {
		if strings.ContainsRune(s.letters, letter) {
			continue
		}
		for _, n := range numbers(letter)[1:] {
			e := base
			put(t, &e, letter, n)
			es = append(es, e)
		}
	}
	if s.tells() {
		e := base
		e.Res.OutKey, e.Res.OutVal = 1, 1
		return append(es, e)
	}
	e := base
	e.Res.Out = true
	es = append(es, e)
	e.Res.OutKey, e.Res.OutVal = 8, 2
	return append(es, e)
}

// nameless are entries of no mark.
func nameless() (es []api.Entry) {
	for _, m := range []api.Mark{0, -1, 18, 19, 255, 256 + 1, -17, 1 << 32, math.MaxInt, math.MinInt} {
		es = append(es, api.Entry{What: m}, api.Entry{What: m, Task: 1}, api.Entry{What: m, Task: 2, Cmd: 1})
	}
	return es
}

func checkPrint(t *testing.T, want string, e api.Errno, es ...api.Entry) {
	t.Helper()
	if s, got := trace.Print(es...); s != want || got != e {
		t.Errorf("P26.2: Print(%+v) = %q, %v, want %q, %v", es, s, got, want, e)
	}
	if trace.Plain(es...) != (e == api.OK) {
		t.Errorf("P26.1: Plain(%+v) = %v", es, e != api.OK)
	}
}

func checkParse(t *testing.T, s string, want []api.Entry, line int, e api.Errno) {
	t.Helper()
	es, n, got := trace.Parse(s)
	if !slices.Equal(es, want) || n != line || got != e {
		t.Errorf("P26.3: Parse(%q) = %+v, %d, %v, want %+v, %d, %v", s, es, n, got, want, line, e)
	}
}

func TestExamples(t *testing.T) {
	for _, w := range []written{
		{api.Entry{What: api.MarkCall, Task: 0, Cmd: 2}, "call t0 c2"},
		{api.Entry{What: api.MarkReturn, Task: 1, Cmd: 0, E: 40}, "return t1 c0 x40 n0"},
		{api.Entry{What: api.MarkApply, Task: 4, From: 2, Event: 7, Item: api.Item{Map: 1, Op: 2, Key: 5, Val: 9}, Res: api.Res{Found: true, Val: 3}}, "apply t4 f2 c0 g0 e7 m1 o2 k5 w9 y0 b1 r3"},
		{api.Entry{What: api.MarkBack, Task: 2, Event: 7, Prog: 1, Version: 3, Pc: 4, Res: api.Res{Out: true, OutKey: 8, OutVal: 2}}, "back t2 e7 p1 v3 a4 y0 b0 r0 O8 V2"},
	} {
		checkPrint(t, w.line+"\n", api.OK, w.e)
		checkParse(t, w.line+"\n", []api.Entry{w.e}, 0, api.OK)
	}
	checkPrint(t, "", api.ErrForm, api.Entry{What: api.MarkEnd, Task: 5, Cmd: 1})
	for _, s := range []string{"call t0 c02", "call t0  c2", "call t0 c2 "} {
		checkParse(t, s, nil, 1, api.ErrText)
		checkParse(t, s+"\n", nil, 1, api.ErrText)
	}
}

// TestAllLetters: every field has a number of its own, so that none can stand for another.
func TestAllLetters(t *testing.T) {
	res := api.Res{E: 16, Found: true, Val: 17, Out: true, OutKey: 18, OutVal: 19}
	item := api.Item{Map: 12, Op: 13, Key: 14, Val: 15}
	for _, w := range []written{
		{api.Entry{What: api.MarkCall, Task: 1, Cmd: 3}, "call t1 c3"},
		{api.Entry{What: api.MarkReturn, Task: 1, Cmd: 3, E: 11, Val: 10}, "return t1 c3 x11 n10"},
		{api.Entry{What: api.MarkApply, Task: 1, From: 2, Cmd: 3, Tag: 4, Event: 5, Item: item, Res: res}, "apply t1 f2 c3 g4 e5 m12 o13 k14 w15 y16 b1 r17 O18 V19"},
		{api.Entry{What: api.MarkAccept, Task: 1, Cmd: 3, Hook: 6, Event: 5}, "accept t1 c3 h6 e5"},
		{api.Entry{What: api.MarkTake, Task: 1, Hook: 6, Event: 5}, "take t1 h6 e5"},
		{api.Entry{What: api.MarkEnter, Task: 1, Hook: 6, Event: 5, Prog: 7, Version: 8}, "enter t1 h6 e5 p7 v8"},
		{api.Entry{What: api.MarkRan, Task: 1, Event: 5, Prog: 7, Version: 8, Pc: 9, Val: 10}, "ran t1 e5 p7 v8 a9 n10"},
		{api.Entry{What: api.MarkNote, Task: 1, Event: 5, Prog: 7, Version: 8, Pc: 9, Val: 10}, "note t1 e5 p7 v8 a9 n10"},
		{api.Entry{What: api.MarkDone, Task: 1, Hook: 6, Event: 5, Prog: 7, Version: 8, Pc: 9, Val: 10}, "done t1 h6 e5 p7 v8 a9 n10"},
		{api.Entry{What: api.MarkDrop, Task: 1, Hook: 6, Event: 5}, "drop t1 h6 e5"},
		{api.Entry{What: api.MarkPublish, Task: 1, Hook: 6, Prog: 7, Version: 8}, "publish t1 h6 p7 v8"},
		{api.Entry{What: api.MarkLoaded, Task: 1, Prog: 7}, "loaded t1 p7"},
		{api.Entry{What: api.MarkRetired, Task: 1, Prog: 7}, "retired t1 p7"},
		{api.Entry{What: api.MarkClosed, Task: 1}, "closed t1"},
		{api.Entry{What: api.MarkEnd, Task: 1}, "end t1"},
		{api.Entry{What: api.MarkAsk, Task: 1, Event: 5, Prog: 7, Version: 8, Pc: 9, Item: item}, "ask t1 e5 p7 v8 a9 m12 o13 k14 w15"},
		{api.Entry{What: api.MarkBack, Task: 1, Event: 5, Prog: 7, Version: 8, Pc: 9, Res: res}, "back t1 e5 p7 v8 a9 y16 b1 r17 O18 V19"},
	} {
		checkPrint(t, w.line+"\n", api.OK, w.e)
		checkParse(t, w.line+"\n", []api.Entry{w.e}, 0, api.OK)
	}
}

func TestNames(t *testing.T) {
	if len(shapes) != api.Marks-1 {
		t.Fatalf("%d shapes", len(shapes))
	}
	for _, s := range shapes {
		if got := trace.Name(s.mark); got != s.name {
			t.Errorf("P26.1: Name(%d) = %q, want %q", s.mark, got, s.name)
		}
	}
	for _, e := range nameless() {
		if got := trace.Name(e.What); got != "" {
			t.Errorf("P26.1: Name(%d) = %q", e.What, got)
		}
	}
}

// TestEdges: every number that a field can hold, in every place where it is written.
func TestEdges(t *testing.T) {
	var es []api.Entry
	var text strings.Builder
	for _, w := range edges(t) {
		checkPrint(t, w.line+"\n", api.OK, w.e)
		checkParse(t, w.line+"\n", []api.Entry{w.e}, 0, api.OK)
		es = append(es, w.e)
		text.WriteString(w.line + "\n")
	}
	checkPrint(t, text.String(), api.OK, es...)
	checkParse(t, text.String(), es, 0, api.OK)
	if len(es) < 700 {
		t.Errorf("only %d entries", len(es))
	}
}

func TestNone(t *testing.T) {
	checkPrint(t, "", api.OK)
	checkPrint(t, "", api.OK, []api.Entry{}...)
	checkParse(t, "", nil, 0, api.OK)
}

// TestNotPlain: an entry that isn't plain, alone, ahead of, between and behind plain ones.
func TestNotPlain(t *testing.T) {
	good := api.Entry{What: api.MarkEnd, Task: 7}
	for _, bad := range append(left(t), nameless()...) {
		checkPrint(t, "", api.ErrForm, bad)
		checkPrint(t, "", api.ErrForm, bad, good, good)
		checkPrint(t, "", api.ErrForm, good, bad, good)
		checkPrint(t, "", api.ErrForm, good, good, bad)
		checkPrint(t, "", api.ErrForm, bad, bad)
	}
}

// TestOut: what an eviction told counts only where there was one.
func TestOut(t *testing.T) {
	for _, m := range []api.Mark{api.MarkApply, api.MarkBack} {
		name := trace.Name(m)
		for _, c := range []struct {
			r     api.Res
			words string
		}{
			{api.Res{}, " y0 b0 r0"}, {api.Res{Out: true}, " y0 b0 r0 O0 V0"}, {api.Res{Out: true, OutKey: 1}, " y0 b0 r0 O1 V0"}, {api.Res{Out: true, OutVal: 1}, " y0 b0 r0 O0 V1"},
			{api.Res{OutKey: 1}, ""}, {api.Res{OutVal: 1}, ""}, {api.Res{OutKey: 1, OutVal: 1}, ""}, {api.Res{E: -1, Found: true, Val: 9, OutVal: math.MaxUint64}, ""},
		} {
			e := api.Entry{What: m, Res: c.r}
			if c.words == "" {
				checkPrint(t, "", api.ErrForm, e)
				continue
			}
			ahead := map[string]string{"apply": " t0 f0 c0 g0 e0 m0 o0 k0 w0", "back": " t0 e0 p0 v0 a0"}[name]
			checkPrint(t, name+ahead+c.words+"\n", api.OK, e)
			checkParse(t, name+ahead+c.words+"\n", []api.Entry{e}, 0, api.OK)
		}
	}
}

// TestLists: lists of entries as they come, printed and parsed and back; and with one among them that isn't plain.
func TestLists(t *testing.T) {
	bad := append(left(t), nameless()...)
	marks := map[api.Mark]int{}
	for seed := range int64(1500) {
		source := drawn(seed)
		var es []api.Entry
		var text strings.Builder
		for range source(12) {
			w := some(t, source)
			es = append(es, w.e)
			text.WriteString(w.line + "\n")
			marks[w.e.What]++
		}
		checkPrint(t, text.String(), api.OK, es...)
		checkParse(t, text.String(), es, 0, api.OK)
		es = slices.Insert(es, source(len(es)+1), bad[source(len(bad))])
		checkPrint(t, "", api.ErrForm, es...)
	}
	for _, s := range shapes {
		if marks[s.mark] < 300 {
			t.Errorf("only %d entries of %s", marks[s.mark], s.name)
		}
	}
}

// TestMany: long lists cost no more than their lengths, and their texts have no bound of their own.
func TestMany(t *testing.T) {
	w := shapes[2].write(t, map[rune]string{'k': "18446744073709551615", 't': "-9223372036854775808"}, true)
	const many = 20000
	es, text := slices.Repeat([]api.Entry{w.e}, many), strings.Repeat(w.line+"\n", many)
	if s, e := trace.Print(es...); s != text || e != api.OK {
		t.Errorf("P26.2: %d entries: %d bytes, %v", many, len(s), e)
	}
	if got, n, e := trace.Parse(text); !slices.Equal(got, es) || n != 0 || e != api.OK {
		t.Errorf("P26.3: %d lines: %d entries, %d, %v", many, len(got), n, e)
	}
	if got, n, e := trace.Parse(text + "\n"); len(got) != 0 || n != many+1 || e != api.ErrText {
		t.Errorf("P26.3: %d lines and an empty one: %d entries, %d, %v", many, len(got), n, e)
	}
}
