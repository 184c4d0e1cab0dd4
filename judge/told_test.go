package judge_test

import (
	"fmt"
	"slices"
	"testing"

	"tappet/api"
	"tappet/flow"
	"tappet/judge"
	"tappet/sigs"
	"tappet/span"
)

const most = uint64(1<<64 - 1)

// facts are what is known at a place: the 8 registers' types, or nothing, where no way leads.
type facts []api.Type

func num(lo, hi uint64) api.Type {
	return api.Type{Kind: 1, Span: api.Span{Lo: lo, Hi: hi}}
}

func handle(n int) api.Type {
	return api.Type{Kind: 2, Map: n}
}

// conditional: is it one of the four jumps that have a condition?
func conditional(op api.Op) bool {
	return op >= 16 && op <= 19
}

// wants is what the chapter's table asks of an operation, in its order: u that the source isn't Unset, A and S that A and the source are Num, w that the source is within {0 15}, m that there is such a map, h that all fits the head, c what the helper wants.
func wants(op api.Op) string {
	switch {
	case op == 0:
		return "u"
	case op >= 1 && op <= 10, conditional(op):
		return "AS"
	case op == 11:
		return "Sw"
	case op == 12:
		return "ASw"
	case op == 14:
		return "m"
	case op == 20:
		return "Ah"
	case op == 21:
		return "c"
	case op == 22:
		return "A"
	}
	return ""
}

func toldSource(i api.Inst, f facts) api.Type {
	if i.B == 8 {
		return num(uint64(i.Imm), uint64(i.Imm))
	}
	return f[i.B]
}

// toldWritten is the register that an instruction writes, or -1.
func toldWritten(i api.Inst) int {
	switch {
	case i.Op <= 11, i.Op == 13, i.Op == 14:
		return i.D
	case i.Op == 21:
		return 0
	}
	return -1
}

// toldMade is what the instruction leaves in the register that it writes.
func toldMade(i api.Inst, f facts) api.Type {
	switch i.Op {
	case 0:
		return toldSource(i, f)
	case 11, 13:
		return num(0, most)
	case 14:
		return handle(int(i.Imm))
	case 21:
		t, _ := sigs.Result(int(i.Imm))
		return t
	}
	s, _ := span.Do(i.Op, f[i.A].Span, toldSource(i, f).Span)
	return api.Type{Kind: 1, Span: s}
}

// toldWays is what the instruction at place from leaves on each of its ways that comes to the higher place to.
func toldWays(i api.Inst, from, to int, f facts) []facts {
	var come []facts
	if conditional(i.Op) {
		for _, holds := range []bool{true, false} {
			s, ok := span.Refine(i.Op, f[i.A].Span, toldSource(i, f).Span, holds)
			if ok && (holds && to == from+i.D+1 || !holds && to == from+1) {
				way := slices.Clone(f)
				way[i.A].Span = s
				come = append(come, way)
			}
		}
		return come
	}
	on := to == from+1 && i.Op != 15 && i.Op != 22
	led := to == from+i.D+1 && i.Op == 15
	if !on && !led {
		return nil
	}
	way := slices.Clone(f)
	if r := toldWritten(i); r >= 0 {
		way[r] = toldMade(i, f)
	}
	return append(come, way)
}

// toldJoin is several types joined, all at once.
func toldJoin(ts []api.Type) api.Type {
	var spans []api.Span
	handles := 0
	for _, t := range ts {
		if t.Kind == 1 {
			spans = append(spans, t.Span)
		}
		if t.Kind == 2 && t.Map == ts[0].Map {
			handles++
		}
	}
	if len(spans) == len(ts) {
		s, _ := span.Join(spans...)
		return api.Type{Kind: 1, Span: s}
	}
	if handles == len(ts) {
		return ts[0]
	}
	return api.Type{}
}

// toldHead is step 3 of what is known at a place.
func toldHead(code []api.Inst, p int, f facts) {
	for at, l := range code {
		if l.Op != 20 || at-l.D != p {
			continue
		}
		for k := p; k <= at; k++ {
			switch r := toldWritten(code[k]); {
			case r < 0:
			case f[r].Kind == 1:
				f[r] = num(0, most)
			default:
				f[r] = api.Type{}
			}
		}
	}
}

// toldKnown is what is known at each place, whether what is asked there is so or not.
func toldKnown(code []api.Inst) []facts {
	var known []facts
	for p := range code {
		var come []facts
		if p == 0 {
			come = append(come, make(facts, 8))
		}
		for from := range p {
			if known[from] != nil {
				come = append(come, toldWays(code[from], from, p, known[from])...)
			}
		}
		var f facts
		for r := range 8 * min(len(come), 1) {
			var ts []api.Type
			for _, way := range come {
				ts = append(ts, way[r])
			}
			f = append(f, toldJoin(ts))
		}
		if f != nil {
			toldHead(code, p, f)
		}
		known = append(known, f)
	}
	return known
}

// toldFits: does a fit b?
func toldFits(a, b api.Type) bool {
	return b.Kind == 0 ||
		a.Kind == 1 && b.Kind == 1 && b.Span.Lo <= a.Span.Lo && a.Span.Hi <= b.Span.Hi ||
		a.Kind == 2 && b.Kind == 2 && a.Map == b.Map
}

// toldAsk is the error of one letter of what the instruction at a place wants.
func toldAsk(m api.Module, at int, known []facts, letter byte) api.Errno {
	i, f := m.Code[at], known[at]
	switch {
	case letter == 'u' && toldSource(i, f).Kind == 0:
		return 33
	case letter == 'A' && f[i.A].Kind != 1:
		return 33
	case letter == 'S' && toldSource(i, f).Kind != 1:
		return 33
	case letter == 'w' && toldSource(i, f).Span.Hi > 15:
		return 35
	case letter == 'm' && int(i.Imm) >= len(m.Maps):
		return 35
	case letter == 'c':
		return sigs.Check(int(i.Imm), f[1:1+len(sigs.Args(int(i.Imm)))]...)
	case letter == 'h':
		for r, t := range known[at-i.D] {
			if !toldFits(f[r], t) {
				return 33
			}
		}
	}
	return 0
}

// toldMaps: are they those of a well-formed module?
func toldMaps(maps []int) bool {
	var times [4]int
	for _, n := range maps {
		if n < 0 || n > 3 {
			return false
		}
		times[n]++
	}
	return slices.Max(times[:]) <= 1
}

// told is P9.1 and P9.2 by the chapter's words, step by step: what is known, the place and the error.
func told(m api.Module) ([]facts, int, api.Errno) {
	if !toldMaps(m.Maps) {
		return nil, 0, 2
	}
	if at, e := flow.Check(m.Code); e != 0 {
		return nil, at, e
	}
	known := toldKnown(m.Code)
	for at, i := range m.Code {
		if known[at] == nil {
			continue
		}
		for _, letter := range []byte(wants(i.Op)) {
			if e := toldAsk(m, at, known, letter); e != 0 {
				return nil, at, e
			}
		}
	}
	return known, 0, 0
}

// hold holds both calls at the module against what is told of it.
func hold(t *testing.T, m api.Module) ([][]api.Type, int, api.Errno) {
	t.Helper()
	known, at, e := told(m)
	if gotAt, got := judge.Judge(m); gotAt != at || got != e {
		t.Fatalf("P9.1: %v: %d, %d; not %d, %d", show(m), gotAt, got, at, e)
	}
	types, got := judge.Types(m)
	if got != e || len(types) != len(known) {
		t.Fatalf("P9.2: %v: %d, %d; not %d, %d", show(m), len(types), got, len(known), e)
	}
	for p, f := range known {
		if !slices.Equal(types[p], f) {
			t.Fatalf("P9.2: %v: at %d %v; not %v", show(m), p, types[p], f)
		}
	}
	return types, at, e
}

// show is a module to be read in a failure.
func show(m api.Module) string {
	s := fmt.Sprintf("maps %v", m.Maps)
	for at, i := range m.Code {
		s += fmt.Sprintf("\n%d: %+v", at, i)
	}
	return s
}
