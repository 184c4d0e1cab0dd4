package engine_test

import (
	"math/big"
	"math/rand"
	"slices"
	"testing"

	"tappet/api"
	"tappet/engine"
	"tappet/flow"
	"tappet/judge"
	"tappet/lines"
	"tappet/scratch"
)

const most = uint64(1<<64 - 1)

// past is an instruction that was done: its place and the next one's, and what it wrote: a register, a word, a counter (-1: none of them).
type past struct {
	at, next        int
	reg, word, slot int
	val             uint64
}

// told is a machine told by what it has done, not by what it holds: what a register is, how often a loop went back, where the machine is, all is looked up in its past.
type told struct {
	m      api.Module
	event  api.Event
	counts [16]uint64 // the counters ahead of its beginning
	done   []past
	waits  bool
	ended  bool
}

// last is the newest of what was done for which it is so.
func (d *told) last(so func(past) bool) (past, bool) {
	for k := len(d.done) - 1; k >= 0; k-- {
		if so(d.done[k]) {
			return d.done[k], true
		}
	}
	return past{}, false
}

func (d *told) reg(r int) uint64 {
	p, _ := d.last(func(p past) bool { return p.reg == r })
	return p.val
}

func (d *told) word(w int) uint64 {
	p, _ := d.last(func(p past) bool { return p.word == w })
	return p.val
}

func (d *told) count(slot int) uint64 {
	n := new(big.Int).SetUint64(d.counts[slot])
	for _, p := range d.done {
		if p.slot == slot {
			n.Add(n, big.NewInt(1))
		}
	}
	return cut(n)
}

// turn is how often the loop at a place went back since it went on.
func (d *told) turn(at int) int64 {
	var n int64
	for k := len(d.done) - 1; k >= 0; k-- {
		if p := d.done[k]; p.at == at && p.next == at+1 {
			break
		} else if p.at == at {
			n++
		}
	}
	return n
}

func (d *told) place() int {
	if len(d.done) == 0 {
		return 0
	}
	p := d.done[len(d.done)-1]
	if d.waits || d.ended {
		return p.at
	}
	return p.next
}

func (d *told) regs() []uint64 {
	var ns []uint64
	for r := range 8 {
		ns = append(ns, d.reg(r))
	}
	return ns
}

func (d *told) over() (uint64, bool) {
	if !d.ended {
		return 0, false
	}
	return d.reg(d.m.Code[d.place()].A), true
}

func (d *told) source(i api.Inst) uint64 {
	if i.B != 8 {
		return d.reg(i.B)
	}
	return cut(big.NewInt(i.Imm))
}

// cut is a number modulo 2^64.
func cut(n *big.Int) uint64 {
	return new(big.Int).Mod(n, new(big.Int).Lsh(big.NewInt(1), 64)).Uint64()
}

// reckoned is what an operation makes of two numbers, without any bound and then cut.
func reckoned(op api.Op, a, b uint64) uint64 {
	x, y, n := new(big.Int).SetUint64(a), new(big.Int).SetUint64(b), new(big.Int)
	switch {
	case op == 1:
		n.Add(x, y)
	case op == 2:
		n.Sub(x, y)
	case op == 3:
		n.Mul(x, y)
	case op == 4 && b != 0:
		n.Div(x, y)
	case op == 5 && b == 0:
		return a
	case op == 5:
		n.Mod(x, y)
	case op == 6:
		n.And(x, y)
	case op == 7:
		n.Or(x, y)
	case op == 8:
		n.Xor(x, y)
	case op == 9 && b < 64:
		n.Lsh(x, uint(b))
	case op == 10 && b < 64:
		n.Rsh(x, uint(b))
	}
	return cut(n)
}

// so: does the condition of a jump hold?
func so(op api.Op, a, b uint64) bool {
	how := new(big.Int).SetUint64(a).Cmp(new(big.Int).SetUint64(b))
	return op == 16 && how == 0 || op == 17 && how != 0 || op == 18 && how < 0 || op == 19 && how >= 0
}

// step is what the chapter's table says of a Step.
func (d *told) step() api.Act {
	at := d.place()
	if d.waits {
		return api.Act{Kind: 5, Pc: at}
	}
	if d.ended {
		n, _ := d.over()
		return api.Act{Kind: 6, Pc: at, Val: n}
	}
	i := d.m.Code[at]
	act := api.Act{Kind: 1, Pc: at}
	p := past{at: at, next: at + 1, reg: -1, word: -1, slot: -1}
	switch {
	case i.Op == 0:
		p.reg, p.val = i.D, d.source(i)
	case i.Op <= 10:
		p.reg, p.val = i.D, reckoned(i.Op, d.reg(i.A), d.source(i))
	case i.Op == 11:
		p.reg, p.val = i.D, d.word(int(d.source(i)))
	case i.Op == 12:
		p.word, p.val = int(d.source(i)), d.reg(i.A)
	case i.Op == 13:
		p.reg, p.val = i.D, []uint64{d.event.A, d.event.B}[i.Imm]
	case i.Op == 14:
		p.reg, p.val = i.D, uint64(i.Imm)
	case i.Op == 15, i.Op < 20 && so(i.Op, d.reg(i.A), d.source(i)):
		p.next = at + i.D + 1
	case i.Op < 20:
	case i.Op == 20:
		if d.reg(i.A) != 0 && d.turn(at) < i.Imm {
			p.next = at - i.D
		}
	case i.Op == 21:
		d.call(int(i.Imm), &act, &p)
	case i.Op == 22:
		act.Kind, act.Val = 4, d.reg(i.A)
		d.ended = true
	}
	d.done = append(d.done, p)
	return act
}

func (d *told) call(h int, act *api.Act, p *past) {
	r1 := d.reg(1)
	switch h {
	case 5:
		p.slot = int(r1)
		n := new(big.Int).SetUint64(d.count(int(r1)))
		p.reg, p.val = 0, cut(n.Add(n, big.NewInt(1)))
		act.Val = p.val
	case 6:
		p.reg = 0
		act.Kind, act.Val = 3, r1
	default:
		d.waits = true
		act.Kind, act.Item = 2, api.Item{Map: d.m.Maps[r1], Op: api.MapOp(h), Key: d.reg(2)}
		if h == 2 || h == 4 {
			act.Item.Val = d.reg(3)
		}
	}
}

// answer: what is written by it counts as the call's, which was done when it was told.
func (d *told) answer(r api.Res) api.Errno {
	if !d.waits {
		return 2
	}
	p := &d.done[len(d.done)-1]
	p.reg = 0
	switch d.m.Code[p.at].Imm {
	case 0, 4:
		p.val = r.Val
	case 1, 3:
		p.val = map[bool]uint64{true: 1}[r.Found]
	case 2:
		p.val = map[bool]uint64{true: 1}[r.E == 0]
	}
	d.waits = false
	return 0
}

// source is where the choices of a run come from.
type source func(below int) int

// number is one of those at which something changes, or any other.
func (c source) number() uint64 {
	edges := []uint64{0, 1, 2, 3, 7, 8, 14, 15, 16, 17, 63, 64, 65, 1 << 32, 1<<63 - 1, 1 << 63, most - 1, most}
	if k := c(len(edges) + 2); k < len(edges) {
		return edges[k]
	}
	var n uint64
	for range 8 {
		n = n<<8 | uint64(c(256))
	}
	return n >> c(64)
}

func (c source) event() api.Event {
	return api.Event{A: c.number(), B: c.number()}
}

// res is any answer, likely or not.
func (c source) res() api.Res {
	return api.Res{
		E: []api.Errno{api.OK, api.OK, api.ErrFull, api.ErrNone}[c(4)], Found: c(2) == 0, Val: c.number(),
		Out: c(4) == 0, OutKey: c.number(), OutVal: c.number(),
	}
}

// inst is an instruction for place at of n, in most cases a right one that leads nowhere outside.
func (c source) inst(at, n int) api.Inst {
	i := api.Inst{Op: api.Op(c(api.Ops + 4))}
	if i.Op >= api.Ops {
		i.Op = api.OpCall
	}
	reg := func() int { return c([]int{3, 5, 8}[c(3)]) }
	if i.Op <= 12 || i.Op >= 16 && i.Op <= 19 {
		i.B, i.Imm = 8, int64(c.number())
		if c(2) == 0 {
			i.B, i.Imm = reg(), 0
		}
	}
	if i.Op >= 1 && i.Op <= 10 || i.Op == 12 || i.Op >= 16 && i.Op != 21 {
		i.A = reg()
	}
	switch {
	case i.Op <= 11:
		i.D = reg()
	case i.Op == 13:
		i.D, i.Imm = reg(), int64(c(2))
	case i.Op == 14:
		i.D, i.Imm = []int{1, 1, 5}[c(3)], int64(c(4))
	case i.Op >= 15 && i.Op <= 19:
		i.D = min(c(max(n-at-1, 1)), c(8))
	case i.Op == 20:
		i.D, i.Imm = 1+c(max(min(at, 12), 1)), int64(1+c([]int{2, 4, 12}[c(3)]))
	case i.Op == 21:
		i.Imm = int64(c(7))
	}
	return i
}

// module is any module of n instructions behind some that give every register something, most likely not a good one.
func (c source) module(n int) api.Module {
	m := api.Module{Maps: [][]int{{2}, {3, 1}, {1, 3, 0}, {3, 2, 1, 0}, {1, 0, 3, 2}}[c(5)]}
	m.Code = []api.Inst{{Op: 13, D: 2}, {Op: 13, D: 3, Imm: 1}, {Op: 14, D: 1}, {Op: 0, B: 8, Imm: int64(c.number())}, {Op: 0, D: 4, B: 8, Imm: int64(c(16))}}
	if c(3) == 0 {
		m.Code[2] = api.Inst{Op: 6, D: 1, A: 2, B: 8, Imm: 15}
	}
	for range n {
		m.Code = append(m.Code, api.Inst{Op: 15})
	}
	for at := 5; at < len(m.Code); at++ {
		m.Code[at] = c.inst(at, len(m.Code))
	}
	m.Code = append(m.Code, api.Inst{Op: 22, A: []int{0, 2, 3, 4}[c(4)]})
	return m
}

// good mends a module where the judge refuses it, and tells whether it got so far.
func (c source) good(m api.Module, tries int) bool {
	n := len(m.Code)
	for range tries {
		at, e := judge.Judge(m)
		if e == api.OK {
			return true
		}
		if e == api.ErrCost || at == n-1 {
			at = c(n - 1)
		}
		m.Code[at] = c.inst(at, n)
	}
	return false
}

// pair is a machine, the scratch that it was handed, and what is told of it.
type pair struct {
	machine *engine.Machine
	s       *scratch.Scratch
	d       *told
	types   [][]api.Type
	cost    int
}

// newPair makes both of them, at their beginning, on a scratch that was used ahead of them. What is handed in is written over at once.
func newPair(t *testing.T, c source, m api.Module) *pair {
	t.Helper()
	p := &pair{s: scratch.New(), d: &told{m: m, event: c.event()}}
	for k := range p.d.counts {
		p.d.counts[k] = c.number()
		p.s.Store(k, c.number())
	}
	p.s.Raise(p.d.counts[:]...)
	p.types, _ = judge.Types(m)
	p.cost, _ = flow.Cost(m.Code)
	given := api.Module{Maps: slices.Clone(m.Maps), Code: slices.Clone(m.Code)}
	var e api.Errno
	if p.machine, e = engine.New(given, p.d.event, p.s); e != api.OK || p.machine == nil {
		t.Fatalf("P11.1: %s: %d", show(m), e)
	}
	clear(given.Maps)
	clear(given.Code)
	p.hold(t)
	return p
}

// show is a module as text.
func show(m api.Module) string {
	s, _ := lines.Print(m.Code...)
	var maps string
	for _, n := range m.Maps {
		maps += string(rune('0' + n))
	}
	return "maps " + maps + "\n" + s
}

// hold holds all that can be asked of a machine, and of its scratch, against what is told, and what the judge knew.
func (p *pair) hold(t *testing.T) {
	t.Helper()
	if p.machine.At() != p.d.place() {
		t.Fatalf("P11.4: %s%v: At %d, not %d", show(p.d.m), p.d.event, p.machine.At(), p.d.place())
	}
	if !slices.Equal(p.machine.Regs(), p.d.regs()) {
		t.Fatalf("P11.4: %s%v: at %d Regs %d, not %d", show(p.d.m), p.d.event, p.d.place(), p.machine.Regs(), p.d.regs())
	}
	if p.machine.Steps() != len(p.d.done) {
		t.Fatalf("P11.4: %s%v: Steps %d, not %d", show(p.d.m), p.d.event, p.machine.Steps(), len(p.d.done))
	}
	n, over := p.machine.Over()
	if wn, w := p.d.over(); n != wn || over != w {
		t.Fatalf("P11.4: %s%v: Over %d %v, not %d %v", show(p.d.m), p.d.event, n, over, wn, w)
	}
	for k := range 16 {
		if n, _ := p.s.Load(k); n != p.d.word(k) {
			t.Fatalf("P11.2: %s%v: at %d word %d is %d, not %d", show(p.d.m), p.d.event, p.d.place(), k, n, p.d.word(k))
		}
		if n, _ := p.s.Count(k); n != p.d.count(k) {
			t.Fatalf("P11.2: %s%v: at %d counter %d is %d, not %d", show(p.d.m), p.d.event, p.d.place(), k, n, p.d.count(k))
		}
	}
	p.holdKnown(t)
}

// holdKnown: P9.4, where the machine is something is known, and it is so.
func (p *pair) holdKnown(t *testing.T) {
	t.Helper()
	known := p.types[p.machine.At()]
	if len(known) != 8 {
		t.Fatalf("P9.4: %s%v: nothing is known at %d", show(p.d.m), p.d.event, p.machine.At())
	}
	for r, n := range p.machine.Regs() {
		k := known[r]
		if k.Kind == api.Num && (n < k.Span.Lo || n > k.Span.Hi) || k.Kind == api.Handle && n != uint64(k.Map) {
			t.Fatalf("P9.4: %s%v: at %d r%d is %d, not %v", show(p.d.m), p.d.event, p.machine.At(), r, n, k)
		}
	}
}

// go1 does one thing to both: a step, or an answer, be it waited for or not.
func (p *pair) go1(t *testing.T, c source) {
	t.Helper()
	if k := c(8); k == 0 || k < 4 && p.d.waits {
		r := c.res()
		if e, w := p.machine.Answer(r), p.d.answer(r); e != w {
			t.Fatalf("P11.3: %s%v: at %d %d, not %d", show(p.d.m), p.d.event, p.d.place(), e, w)
		}
	} else if act, w := p.machine.Step(), p.d.step(); act != w {
		t.Fatalf("P11.2: %s%v: %+v, not %+v", show(p.d.m), p.d.event, act, w)
	}
	if len(p.d.done) > p.cost || len(p.d.done) == p.cost && !p.d.ended {
		t.Fatalf("P11.6: %s%v: %d steps, the cost is %d", show(p.d.m), p.d.event, len(p.d.done), p.cost)
	}
	p.hold(t)
}

// run goes on with some pairs in turns, till all have ended and were asked a little longer.
func run(t *testing.T, c source, ps ...*pair) {
	t.Helper()
	for left := 20; left > 0; {
		p := ps[c(len(ps))]
		p.go1(t, c)
		if !slices.ContainsFunc(ps, func(p *pair) bool { return !p.d.ended }) {
			left--
		}
	}
}

// back is how often a pair's loops went back.
func (p *pair) back() int {
	n := 0
	for _, x := range p.d.done {
		if x.next < x.at {
			n++
		}
	}
	return n
}

func TestAnyModules(t *testing.T) {
	rnd := rand.New(rand.NewSource(11))
	c := source(rnd.Intn)
	good, back, full := 0, 0, 0
	met := make([]int, api.Ops)
	helped := make([]int, api.Helpers)
	for range 1500 {
		m := c.module(1 + rnd.Intn(16)*rnd.Intn(4))
		if !c.good(m, 500) {
			continue
		}
		good++
		for range 4 {
			ps := []*pair{newPair(t, c, m), newPair(t, c, m)}
			run(t, c, ps...)
			back += ps[0].back() + ps[1].back()
			for _, x := range ps[0].d.done {
				met[m.Code[x.at].Op]++
				if m.Code[x.at].Op == api.OpCall {
					helped[m.Code[x.at].Imm]++
				}
			}
			if len(ps[0].d.done) == ps[0].cost {
				full++
			}
		}
		holdTrace(t, c, m)
	}
	if good < 1000 || back < 5000 || full < 100 {
		t.Errorf("%d modules were good, they went back %d times, %d took all of their cost", good, back, full)
	}
	if slices.Min(met) < 300 || slices.Min(helped) < 300 {
		t.Errorf("the operations were met %d times, the helpers %d times", met, helped)
	}
}

// holdTrace holds Trace, with too few answers, enough and too many, against what is told.
func holdTrace(t *testing.T, c source, m api.Module) {
	t.Helper()
	rs := make([]api.Res, c(6))
	for k := range rs {
		rs[k] = c.res()
	}
	d := &told{m: m, event: c.event()}
	var want []api.Act
	for left := rs; ; left = left[1:] {
		for !d.waits && !d.ended {
			want = append(want, d.step())
		}
		if d.ended || len(left) == 0 {
			break
		}
		d.answer(left[0])
	}
	given := slices.Clone(rs)
	module := api.Module{Maps: slices.Clone(m.Maps), Code: slices.Clone(m.Code)}
	for range 2 {
		if acts, e := engine.Trace(module, d.event, given...); e != api.OK || !slices.Equal(acts, want) {
			t.Fatalf("P11.5: %s%v %+v: %+v, %d; not %+v", show(m), d.event, rs, acts, e, want)
		}
	}
	if !slices.Equal(given, rs) || !slices.Equal(module.Maps, m.Maps) || !slices.Equal(module.Code, m.Code) {
		t.Fatalf("P11.7: %s: what was handed in isn't as it was", show(m))
	}
}

// TestEveryShortCode: all codes of three of the most telling instructions, behind different beginnings.
func TestEveryShortCode(t *testing.T) {
	c := source(rand.New(rand.NewSource(3)).Intn)
	pool := module(t, "set r0 3, set r1 r0, map r1 0, map r1 1, field r0 0, field r1 1, load r1 r0, load r0 5, store r0 r1, store r1 15, add r0 r0 1, sub r1 r1 r0, and r1 r0 15, "+
		"jump 0, jump 1, jlt r0 16 1, jeq r0 3 1, jne r1 r0 1, jge r0 r1 2, loop r0 1 1, loop r0 2 2, loop r1 1 2, loop r1 3 1, call 0, call 1, call 2, call 3, call 4, call 5, call 6, exit r1").Code
	good := 0
	for _, begin := range []string{"set r0 3, set r1 2", "field r1 0, set r0 15", "map r1 1, field r2 0, field r3 1, set r0 2"} {
		m := module(t, begin+", exit r0, exit r0, exit r0, exit r0, exit r0")
		at := len(m.Code) - 5
		for k := range len(pool) * len(pool) * len(pool) {
			m.Code[at], m.Code[at+1], m.Code[at+2] = pool[k%len(pool)], pool[k/len(pool)%len(pool)], pool[k/len(pool)/len(pool)]
			if _, e := judge.Judge(m); e == api.OK {
				good++
				run(t, c, newPair(t, c, m))
			}
		}
	}
	if good < 5000 {
		t.Errorf("only %d codes were good", good)
	}
}

// TestWrongModules: modules of any kind are let in or refused as the judge does, and a scratch that was handed in beside one that is refused stays as it was.
func TestWrongModules(t *testing.T) {
	rnd := rand.New(rand.NewSource(1))
	c := source(rnd.Intn)
	refused := 0
	for range 3000 {
		m := c.module(rnd.Intn(8))
		i := &m.Code[rnd.Intn(len(m.Code))]
		odd := []int{-1, 8, 9, 23, 64, 1 << 32, -1 << 63, 1<<63 - 1}[rnd.Intn(8)]
		switch rnd.Intn(8) {
		case 0:
			i.Op = api.Op(odd)
		case 1:
			i.D = odd
		case 2:
			i.A = odd
		case 3:
			i.B = odd
		case 4:
			i.Imm = int64(odd)
		case 5:
			m.Maps = []int{odd}
		}
		if holdNew(t, m) != api.OK {
			refused++
		}
	}
	if refused < 1000 {
		t.Errorf("only %d were refused", refused)
	}
}

func FuzzTold(f *testing.F) {
	f.Add([]byte{1, 2, 3, 4, 5, 6, 7, 8})
	f.Add([]byte("a loop, a call, a note, and whatever else there is"))
	f.Fuzz(func(t *testing.T, b []byte) {
		more := rand.New(rand.NewSource(int64(len(b))))
		c := source(func(below int) int {
			if len(b) == 0 {
				return more.Intn(below)
			}
			n := int(b[0]) % below
			b = b[1:]
			return n
		})
		m := c.module(c(30))
		if !c.good(m, 200) {
			holdNew(t, m)
			return
		}
		run(t, c, newPair(t, c, m), newPair(t, c, m))
		holdTrace(t, c, m)
	})
}
