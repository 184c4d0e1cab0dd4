package judge_test

import (
	"math"
	"math/rand"
	"slices"
	"strings"
	"testing"

	"tappet/api"
	"tappet/arith"
	"tappet/flow"
	"tappet/judge"
	"tappet/sigs"
)

// value is what a register holds in a run: nothing, a number, or a handle of the map of that number.
type value struct {
	kind api.Kind
	n    uint64
}

// run is a module's way through one event, as layer 11's chapter tells it, but that it knows numbers and handles apart and looks at everything that it is asked for.
type run struct {
	m     api.Module
	event api.Event
	regs  [8]value
	words [16]uint64
	slots [16]uint64
	turns [64]int64
	at    int
	over  bool
}

// number is a register's or an immediate's, and whether it holds one.
func (r *run) number(b int, imm int64) (uint64, bool) {
	if b == 8 {
		return uint64(imm), true
	}
	return r.regs[b].n, r.regs[b].kind == api.Num
}

// step does one instruction; what is wrong with it, if anything is asked for that isn't there.
func (r *run) step(rnd *rand.Rand) string {
	i := r.m.Code[r.at]
	switch {
	case i.Op == api.OpCall:
		return r.call(int(i.Imm), rnd)
	case i.Op >= api.OpJump:
		return r.lead(i)
	case i.Op == api.OpSet && i.B != 8:
		if r.regs[i.B].kind == api.Unset {
			return "nothing is read"
		}
		r.regs[i.D] = r.regs[i.B]
	case i.Op == api.OpField:
		r.regs[i.D] = value{api.Num, []uint64{r.event.A, r.event.B}[i.Imm]}
	case i.Op == api.OpMap:
		if int(i.Imm) >= len(r.m.Maps) {
			return "there is no such map"
		}
		r.regs[i.D] = value{api.Handle, uint64(i.Imm)}
	default:
		if wrong := r.reckon(i); wrong != "" {
			return wrong
		}
	}
	r.at++
	return ""
}

// reckon is what is done with numbers: set, add to shr, load, store.
func (r *run) reckon(i api.Inst) string {
	b, ok := r.number(i.B, i.Imm)
	a, first := r.number(i.A, 0)
	switch {
	case !ok || !first && i.Op != api.OpSet && i.Op != api.OpLoad:
		return "what isn't a number is reckoned with"
	case (i.Op == api.OpLoad || i.Op == api.OpStore) && b >= 16:
		return "there is no such word"
	case i.Op == api.OpSet:
		r.regs[i.D] = value{api.Num, b}
	case i.Op == api.OpLoad:
		r.regs[i.D] = value{api.Num, r.words[b]}
	case i.Op == api.OpStore:
		r.words[b] = a
	default:
		n, _ := arith.Do(i.Op, a, b)
		r.regs[i.D] = value{api.Num, n}
	}
	return ""
}

// lead is jumps, loops and exits.
func (r *run) lead(i api.Inst) string {
	a, ok := r.number(i.A, 0)
	b, second := r.number(i.B, i.Imm)
	if i.Op == api.OpJump {
		r.at += i.D + 1
		return ""
	}
	if !ok || i.Op < api.OpLoop && !second {
		return "what isn't a number is looked at"
	}
	holds, _ := arith.Holds(i.Op, a, b)
	switch {
	case i.Op == api.OpExit:
		r.over = true
	case i.Op == api.OpLoop && a != 0 && r.turns[r.at] < i.Imm:
		r.turns[r.at]++
		r.at -= i.D
	case i.Op == api.OpLoop:
		r.turns[r.at] = 0
		r.at++
	case holds:
		r.at += i.D + 1
	default:
		r.at++
	}
	return ""
}

// call is a helper with any answer that a map may give.
func (r *run) call(h int, rnd *rand.Rand) string {
	for k, want := range sigs.Args(h) {
		if r.regs[k+1].kind != want.Kind {
			return "a helper is handed what it doesn't want"
		}
	}
	r1 := r.regs[1].n
	answer := value{kind: api.Num}
	switch {
	case h == api.HelpMark && r1 >= 16:
		return "there is no such slot"
	case h == api.HelpMark:
		r.slots[r1]++
		answer.n = r.slots[r1]
	case h != api.HelpNote:
		if r1 >= uint64(len(r.m.Maps)) {
			return "there is no such map"
		}
		answer.n = sigs.Value(h, api.Res{E: []api.Errno{api.OK, api.ErrFull}[rnd.Intn(2)], Found: rnd.Intn(2) == 0, Val: anyNumber(rnd)})
	}
	r.regs[0] = answer
	r.at++
	return ""
}

// so: is what is known of a register what it holds?
func so(known api.Type, is value) bool {
	switch known.Kind {
	case api.Num:
		return is.kind == api.Num && known.Span.Lo <= is.n && is.n <= known.Span.Hi
	case api.Handle:
		return is.kind == api.Handle && is.n == uint64(known.Map)
	}
	return known == api.Type{}
}

// holdRun goes through a module that is judged good, and holds what is known against what is there. It answers how often it went back.
func holdRun(t *testing.T, m api.Module, types [][]api.Type, rnd *rand.Rand) int {
	t.Helper()
	cost, _ := flow.Cost(m.Code)
	r := run{m: m, event: api.Event{A: anyNumber(rnd), B: anyNumber(rnd)}}
	for k := range r.slots {
		r.slots[k] = anyNumber(rnd)
	}
	begin, back := r, 0
	for steps := 0; !r.over; steps++ {
		if steps == cost {
			t.Fatalf("P9.4: %s\n%v: it isn't over behind %d steps", show(m), begin.event, cost)
		}
		if len(types[r.at]) != 8 {
			t.Fatalf("P9.4: %s\n%v: nothing is known at %d", show(m), begin.event, r.at)
		}
		for k, known := range types[r.at] {
			if !so(known, r.regs[k]) {
				t.Fatalf("P9.4: %s\n%v: at %d r%d is %v, not %v", show(m), begin.event, r.at, k, r.regs[k], known)
			}
		}
		at := r.at
		if wrong := r.step(rnd); wrong != "" {
			t.Fatalf("P9.4: %s\n%v: at %d %s", show(m), begin.event, at, wrong)
		}
		if r.at < at {
			back++
		}
	}
	return back
}

// anyNumber is one of those at which something changes, or any other.
func anyNumber(rnd *rand.Rand) uint64 {
	telling := []uint64{0, 1, 2, 3, 7, 8, 14, 15, 16, 17, 63, 64, 65, 1 << 32, 1<<63 - 1, 1 << 63, most - 1, most}
	if n := rnd.Intn(len(telling) + 2); n < len(telling) {
		return telling[n]
	}
	return rnd.Uint64() >> rnd.Intn(64)
}

// anyInst is a right instruction that leads nowhere outside of n places, for place at.
func anyInst(rnd *rand.Rand, at, n int) api.Inst {
	i := api.Inst{Op: api.Op(rnd.Intn(api.Ops))}
	reg := func() int { return rnd.Intn([]int{3, 4, 4, 8}[rnd.Intn(4)]) }
	switch w := wants(i.Op); {
	case i.Op == api.OpCall:
		i.Imm = int64(rnd.Intn(api.Helpers))
	case i.Op == api.OpMap:
		i.D, i.Imm = reg(), int64(rnd.Intn(3))
	case i.Op == api.OpField:
		i.D, i.Imm = reg(), int64(rnd.Intn(2))
	case i.Op == api.OpLoop:
		i.D, i.A, i.Imm = 1+rnd.Intn(max(at, 1)), reg(), int64(1+rnd.Intn(3))
	default:
		if strings.ContainsAny(w, "uS") {
			i.B = api.Immediate
			if rnd.Intn(2) == 0 {
				i.B = reg()
			}
		}
		if i.B == api.Immediate {
			i.Imm = int64(anyNumber(rnd))
		}
		if strings.Contains(w, "A") {
			i.A = reg()
		}
		i.D = max(toldWritten(api.Inst{Op: i.Op, D: reg()}), 0)
		if i.Op >= api.OpJump && i.Op <= api.OpJge {
			i.D = min(rnd.Intn(max(n-at-1, 1)), rnd.Intn(8))
		}
	}
	return i
}

// anyModule is a module of n instructions, most likely not a good one.
func anyModule(rnd *rand.Rand, n int) api.Module {
	m := api.Module{Maps: [][]int{{2, 0}, {3, 1, 0}, {1, 3, 2, 0}}[rnd.Intn(3)], Code: make([]api.Inst, n)}
	for at := range m.Code {
		m.Code[at] = anyInst(rnd, at, n)
	}
	m.Code[n-1] = api.Inst{Op: api.OpExit, A: rnd.Intn(3)}
	return m
}

// mend changes something where the module was refused, or ahead of that.
func mend(rnd *rand.Rand, m api.Module, at int, e api.Errno) {
	n := len(m.Code)
	if e == api.ErrCost {
		at = rnd.Intn(n)
	}
	switch rnd.Intn(5) {
	case 0:
		k := rnd.Intn(at + 1)
		m.Code[k] = anyInst(rnd, k, n)
	case 1:
		m.Code[rnd.Intn(at+1)] = api.Inst{Op: api.OpField, D: rnd.Intn(4), Imm: int64(rnd.Intn(2))}
	case 2:
		m.Code[rnd.Intn(at+1)] = api.Inst{Op: api.OpMap, D: 1, Imm: int64(rnd.Intn(2))}
	default:
		m.Code[at] = anyInst(rnd, at, n)
	}
	if at == n-1 {
		m.Code[at] = api.Inst{Op: api.OpExit, A: rnd.Intn(8)}
	}
}

// TestAnyModules holds modules of any kind against what is told of them, and mends each till it is good; then it is run on many events.
func TestAnyModules(t *testing.T) {
	rnd := rand.New(rand.NewSource(9))
	met := make([]int, 64)
	good, back := 0, 0
	for range 2000 {
		m := anyModule(rnd, 1+rnd.Intn(16)*rnd.Intn(4))
		for range 400 {
			types, at, e := hold(t, m)
			met[e]++
			if e != api.OK {
				mend(rnd, m, at, e)
				continue
			}
			good++
			for range 30 {
				back += holdRun(t, m, types, rnd)
			}
			break
		}
	}
	for _, e := range []api.Errno{api.OK, api.ErrFlow, api.ErrLoop, api.ErrCost, api.ErrType, api.ErrBound} {
		if met[e] < 20 {
			t.Errorf("only %d modules were answered by %d", met[e], e)
		}
	}
	if good < 1200 || back < 5000 {
		t.Errorf("only %d modules were good, and they went back %d times", good, back)
	}
}

// TestEveryShortCode: all codes of three of the most telling instructions, behind different beginnings.
func TestEveryShortCode(t *testing.T) {
	rnd := rand.New(rand.NewSource(3))
	pool := code(t, "set r0 3, set r1 16, set r1 r0, map r0 0, map r1 1, map r1 2, field r0 0, field r1 1, load r1 r0, load r0 5, store r0 r1, add r0 r0 1, and r1 r0 15, rem r0 r0 r1, "+
		"jump 0, jump 1, jlt r0 16 0, jlt r0 16 1, jeq r0 3 1, jne r1 r0 1, jge r0 r1 2, loop r0 1 1, loop r0 2 2, loop r1 1 2, loop r1 3 1, call 0, call 2, call 5, call 6, exit r0, exit r1")
	good := 0
	for _, begin := range []string{"jump 0", "set r0 3, set r1 20", "field r1 0, set r0 15", "map r1 1, field r2 0, set r0 2"} {
		m := api.Module{Maps: []int{2, 0}, Code: code(t, begin+", exit r0, exit r0, exit r0, exit r0, exit r1")}
		at := strings.Count(begin, ",") + 1
		for _, a := range pool {
			for _, b := range pool {
				for _, c := range pool {
					m.Code[at], m.Code[at+1], m.Code[at+2] = a, b, c
					types, _, e := hold(t, m)
					if e == api.OK {
						good++
						holdRun(t, m, types, rnd)
					}
				}
			}
		}
	}
	if good < 10000 {
		t.Errorf("only %d codes were good", good)
	}
}

// TestWrong: modules of which any field is any number are answered, and as told.
func TestWrong(t *testing.T) {
	rnd := rand.New(rand.NewSource(1))
	odd := func() int {
		return []int{0, 1, 2, 3, 4, 7, 8, 9, 22, 23, 63, 64, 65, -1, -2, 1 << 32, math.MaxInt32, math.MinInt32, math.MaxInt, math.MinInt}[rnd.Intn(20)]
	}
	for range 20000 {
		m := anyModule(rnd, 1+rnd.Intn(9))
		if rnd.Intn(4) == 0 {
			m.Maps = slices.Clone(m.Maps)
			m.Maps[rnd.Intn(len(m.Maps))] = odd()
		}
		i := &m.Code[rnd.Intn(len(m.Code))]
		switch rnd.Intn(5) {
		case 0:
			i.Op = api.Op(odd())
		case 1:
			i.D = odd()
		case 2:
			i.A = odd()
		case 3:
			i.B = odd()
		case 4:
			i.Imm = int64(odd())
		}
		hold(t, m)
	}
}

// moduleOf makes a module of any bytes: five of them an instruction, its fields taken as they are nearly right.
func moduleOf(b []byte) api.Module {
	var m api.Module
	for k := range 4 {
		if len(b) > 0 && b[0]>>k&1 == 1 {
			m.Maps = append(m.Maps, 3-k)
		}
	}
	for ; len(b) >= 6; b = b[5:] {
		i := api.Inst{Op: api.Op(b[1] % 24), D: int(b[2] % 16), A: int(b[3] % 9), B: int(b[4] % 10), Imm: int64(int8(b[5]))}
		if i.B != 8 && strings.ContainsAny(wants(i.Op), "uS") {
			i.Imm = 0
		}
		if !strings.ContainsAny(wants(i.Op), "uS") {
			i.B = 0
		}
		if !strings.Contains(wants(i.Op), "A") {
			i.A = 0
		}
		m.Code = append(m.Code, i)
	}
	return m
}

func FuzzJudge(f *testing.F) {
	f.Add([]byte{3, 0, 0, 0, 8, 7, 22, 0, 0, 0, 0})
	f.Add([]byte{1, 0, 1, 0, 8, 5, 2, 1, 1, 8, 1, 20, 1, 1, 0, 9, 22, 0, 1, 0, 0})
	f.Add([]byte{15, 13, 1, 0, 0, 0, 18, 2, 1, 8, 16, 0, 0, 0, 8, 0, 22, 0, 0, 0, 0, 11, 0, 0, 1, 0, 22, 0, 0, 0, 0})
	f.Fuzz(func(t *testing.T, b []byte) {
		m := moduleOf(b)
		types, _, e := hold(t, m)
		rnd := rand.New(rand.NewSource(int64(len(b))))
		for range 4 {
			if e == api.OK {
				holdRun(t, m, types, rnd)
			}
		}
		if _, got := judge.Judge(m); got != e {
			t.Errorf("P9.1: %s: %d, not %d", show(m), got, e)
		}
	})
}
