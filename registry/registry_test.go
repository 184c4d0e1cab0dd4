package registry_test

import (
	"math"
	"slices"
	"strconv"
	"strings"
	"testing"

	"tappet/api"
	"tappet/epoch"
	"tappet/hooks"
	"tappet/judge"
	"tappet/lines"
	"tappet/refs"
	"tappet/registry"
	"tappet/wire"
)

// asked is what can be asked of a registry, its own and what it embeds.
type asked interface {
	Live() []int
	Retiring() []int
	Module(prog int) (api.Module, bool)
	Count(m int) (int, api.Errno)
	Holders(m int) []int
	Held(prog int) ([]int, bool)
	Last() int
	Current(hook int) (int, int, bool)
	Where(progs ...int) []int
	Now() int
	In(worker int) (int, bool)
	Oldest() int
	Safe(epoch int) bool
}

// view is all that can be read of a registry, as texts.
type view struct {
	programs, hooks, holds, clock string
}

// page is a text that is being written.
type page []byte

// put writes numbers.
func (p *page) put(ns ...int) {
	*p = append(*p, '[')
	for _, n := range ns {
		*p = append(strconv.AppendInt(*p, int64(n), 10), ' ')
	}
	*p = append(*p, ']')
}

// say writes whether it is so.
func (p *page) say(so bool) {
	*p = strconv.AppendBool(*p, so)
}

// module writes a module.
func (p *page) module(m api.Module) {
	p.put(m.Maps...)
	for _, i := range m.Code {
		p.put(int(i.Op), i.D, i.A, i.B, int(i.Imm))
	}
}

// glance reads a registry: of programs those numbers from -1 to up, and a few others.
func glance(r asked, up int) view {
	var programs, at, holds, clock page
	programs.put(r.Live()...)
	programs.put(r.Retiring()...)
	one := func(prog int) {
		if m, ok := r.Module(prog); ok || len(m.Maps)+len(m.Code) > 0 {
			programs.put(prog)
			programs.module(m)
			programs.say(ok)
		}
		if maps, ok := r.Held(prog); ok || len(maps) > 0 {
			holds.put(prog)
			holds.put(maps...)
			holds.say(ok)
		}
		if where := r.Where(prog); len(where) > 0 {
			at.put(prog)
			at.put(where...)
		}
	}
	for prog := -1; prog <= up; prog++ {
		one(prog)
	}
	for _, prog := range [...]int{math.MinInt, 257, 1<<32 + 1, math.MaxInt} {
		one(prog)
	}
	for k := -1; k <= 5; k++ {
		n, e := r.Count(k)
		holds.put(n, int(e))
		holds.put(r.Holders(k)...)
		v, prog, ok := r.Current(k)
		at.put(v, prog)
		at.say(ok)
		of, in := r.In(k)
		clock.put(of)
		clock.say(in)
	}
	at.put(r.Last())
	clock.put(r.Now(), r.Oldest())
	for e := max(0, r.Now()-20); e <= r.Now()+1; e++ {
		clock.say(r.Safe(e))
	}
	return view{string(programs), string(at), string(holds), string(clock)}
}

// look reads a registry, twice, as reading changes nothing.
func look(t *testing.T, r *registry.Registry) view {
	t.Helper()
	v := glance(r, 40)
	if again := glance(r, 40); again != v {
		t.Errorf("P24.6: read once more it is %+v, not %+v", again, v)
	}
	return v
}

// made is a new registry.
func made(t *testing.T, nHooks, maps, workers int) *registry.Registry {
	t.Helper()
	r, e := registry.New(nHooks, maps, workers)
	if r == nil || e != api.OK {
		t.Fatalf("P24.1: New(%d, %d, %d): %v, %v", nHooks, maps, workers, r, e)
	}
	return r
}

// module is one of lines with commas between them.
func module(t *testing.T, text string, maps ...int) api.Module {
	t.Helper()
	is, n, e := lines.Parse(strings.ReplaceAll(text, ", ", "\n") + "\n")
	if e != api.OK {
		t.Fatalf("%q: line %d: %v", text, n, e)
	}
	return api.Module{Maps: maps, Code: is}
}

// laid are the bytes of a module.
func laid(t *testing.T, m api.Module) []byte {
	t.Helper()
	b, e := wire.Encode(m)
	if e != api.OK {
		t.Fatalf("Encode(%v): %v", m, e)
	}
	return b
}

// good is a module that is judged good, unlike those of other numbers.
func good(n int, maps ...int) api.Module {
	return api.Module{Maps: maps, Code: []api.Inst{{Op: api.OpSet, B: api.Immediate, Imm: int64(n)}, {Op: api.OpExit}}}
}

// loads fails if Load isn't answered so, or if a refused one changes anything.
func loads(t *testing.T, r *registry.Registry, b []byte, n int, want api.Errno) {
	t.Helper()
	before := glance(r, 40)
	if got, e := r.Load(b); got != n || e != want {
		t.Errorf("P24.2: Load(%x): %d, %v, want %d, %v", b, got, e, n, want)
	}
	stays(t, "Load", r, before, want == api.OK)
}

// stays fails if a registry isn't as it was, unless a call went well.
func stays(t *testing.T, call string, r *registry.Registry, before view, well bool) {
	t.Helper()
	if behind := glance(r, 40); !well && behind != before {
		t.Errorf("rule 3: behind %s, which was refused, %+v, not %+v", call, behind, before)
	}
}

// fill loads so many programs; program n is good(n) with these maps.
func fill(t *testing.T, r *registry.Registry, many int, maps ...int) {
	t.Helper()
	for range many {
		n := 1
		for _, prog := range append(r.Live(), r.Retiring()...) {
			n = max(n, prog+1)
		}
		loads(t, r, laid(t, good(n, maps...)), n, api.OK)
	}
}

// attaches fails if Attach isn't answered so, or if a refused one changes anything.
func attaches(t *testing.T, r *registry.Registry, hook, prog, version int, want api.Errno) {
	t.Helper()
	before := glance(r, 40)
	if v, e := r.Attach(hook, prog); v != version || e != want {
		t.Errorf("P24.3: Attach(%d, %d): %d, %v, want %d, %v", hook, prog, v, e, version, want)
	}
	stays(t, "Attach", r, before, want == api.OK)
}

// swaps fails if Swap isn't answered so, or if a refused one changes anything.
func swaps(t *testing.T, r *registry.Registry, hook, prog, version int, want api.Errno) {
	t.Helper()
	before := glance(r, 40)
	if v, e := r.Swap(hook, prog); v != version || e != want {
		t.Errorf("P24.3: Swap(%d, %d): %d, %v, want %d, %v", hook, prog, v, e, version, want)
	}
	stays(t, "Swap", r, before, want == api.OK)
}

// retires fails if Retire isn't answered so, or if a refused one changes anything.
func retires(t *testing.T, r *registry.Registry, prog, grace int, want api.Errno) {
	t.Helper()
	before := glance(r, 40)
	if n, e := r.Retire(prog); n != grace || e != want {
		t.Errorf("P24.4: Retire(%d): %d, %v, want %d, %v", prog, n, e, grace, want)
	}
	stays(t, "Retire", r, before, want == api.OK)
}

// settles fails if Settle doesn't answer these programs, or if it changes anything though it answers none.
func settles(t *testing.T, r *registry.Registry, most int, progs ...int) {
	t.Helper()
	before := glance(r, 40)
	if got := r.Settle(most); !slices.Equal(got, progs) {
		t.Errorf("P24.5: Settle(%d): %v, want %v", most, got, progs)
	}
	stays(t, "Settle", r, before, len(progs) > 0)
}

// there fails if these aren't the live ones, and those the retiring ones.
func there(t *testing.T, when string, r *registry.Registry, live, retiring []int) {
	t.Helper()
	if a, b := r.Live(), r.Retiring(); !slices.Equal(a, live) || !slices.Equal(b, retiring) {
		t.Errorf("P24.6: %s: live %v, retiring %v, want %v, %v", when, a, b, live, retiring)
	}
}

// is fails if a program's module isn't this one.
func is(t *testing.T, r *registry.Registry, prog int, m api.Module) {
	t.Helper()
	if got, ok := r.Module(prog); !wire.Same(got, m) || !ok {
		t.Errorf("P24.6: Module(%d): %v, %t, want %v", prog, got, ok, m)
	}
}

// isnt fails if one of these has a module.
func isnt(t *testing.T, r *registry.Registry, progs ...int) {
	t.Helper()
	for _, prog := range progs {
		if m, ok := r.Module(prog); len(m.Maps) != 0 || len(m.Code) != 0 || ok {
			t.Errorf("P24.6: Module(%d): %v, %t, want none", prog, m, ok)
		}
	}
}

// counts fails if the maps' Counts aren't these.
func counts(t *testing.T, when string, r *registry.Registry, want ...int) {
	t.Helper()
	for m, n := range want {
		if got, e := r.Count(m); got != n || e != api.OK {
			t.Errorf("P24.7: %s: Count(%d): %d, %v, want %d", when, m, got, e, n)
		}
	}
}

// enters fails if Enter isn't answered so, and OK.
func enters(t *testing.T, r *registry.Registry, worker, of int) {
	t.Helper()
	if n, e := r.Enter(worker); n != of || e != api.OK {
		t.Errorf("Enter(%d): %d, %v, want %d", worker, n, e, of)
	}
}

// leaves fails if Leave isn't OK.
func leaves(t *testing.T, r *registry.Registry, workers ...int) {
	t.Helper()
	if e := r.Leave(workers...); e != api.OK {
		t.Errorf("Leave(%v): %v", workers, e)
	}
}

// ends are numbers at which a call may go wrong: the least, the greatest, about 0, and such that are small ones modulo 2^8, 2^16 or 2^32, or but for their sign.
func ends() []int {
	return []int{math.MinInt, math.MinInt + 1, math.MinInt32, -1<<32 + 1, -65535, -255, -3, -2, -1, 0,
		256, 257, 258, 65537, math.MaxInt32, 1 << 32, 1<<32 + 1, 1<<32 + 2, math.MaxInt - 1, math.MaxInt}
}

// spoil writes over a list and its spare room.
func spoil(list []int) {
	list = list[:cap(list)]
	for k := range list {
		list[k] = 1 - k
	}
}

// spoilModule writes over a module and its spare room.
func spoilModule(m api.Module) {
	spoil(m.Maps)
	code := m.Code[:cap(m.Code)]
	for k := range code {
		code[k] = api.Inst{Op: api.OpExit, A: 3}
	}
}

// TestExamples: the chapter's table.
func TestExamples(t *testing.T) {
	r := made(t, 2, 3, 1)
	b := laid(t, module(t, "set r0 5, exit r0", 2))
	loads(t, r, b, 1, api.OK)
	loads(t, r, b, 2, api.OK)
	loads(t, r, b[:len(b)-1], 0, api.ErrShort)
	counts(t, "loaded", r, 0, 0, 2)
	attaches(t, r, 0, 1, 1, api.OK)
	attaches(t, r, 5, 9, 0, api.ErrArg)
	attaches(t, r, 1, 9, 0, api.ErrNone)
	enters(t, r, 0, 1)
	swaps(t, r, 0, 2, 2, api.OK)
	retires(t, r, 2, 0, api.ErrBusy)
	retires(t, r, 1, 2, api.OK)
	retires(t, r, 1, 0, api.ErrBusy)
	retires(t, r, 7, 0, api.ErrNone)
	attaches(t, r, 1, 1, 0, api.ErrNone)
	settles(t, r, 9)
	there(t, "not settled", r, []int{2}, []int{1})
	counts(t, "not settled", r, 0, 0, 2)
	leaves(t, r, 0)
	settles(t, r, 0)
	settles(t, r, 9, 1)
	counts(t, "settled", r, 0, 0, 1)
	isnt(t, r, 1)
	loads(t, r, b, 3, api.OK)
}

// suits fails if a registry isn't new, of so many hooks, maps and workers.
func suits(t *testing.T, r *registry.Registry, nHooks, maps, workers int) {
	t.Helper()
	there(t, "new", r, nil, nil)
	isnt(t, r, append(ends(), 1, 2, 3)...)
	for k := range 5 {
		if n, e := r.Count(k); n != 0 || (e == api.OK) != (k < maps) {
			t.Errorf("P24.1: %d maps: Count(%d): %d, %v", maps, k, n, e)
		}
		if e := r.Detach(k); (e == api.ErrNone) != (k < nHooks) {
			t.Errorf("P24.1: %d hooks: Detach(%d): %v", nHooks, k, e)
		}
		if e := r.Leave(k); (e == api.ErrNone) != (k < workers) {
			t.Errorf("P24.1: %d workers: Leave(%d): %v", workers, k, e)
		}
	}
	if r.Last() != 0 || r.Now() != 1 || len(r.Settle(9)) != 0 {
		t.Errorf("P24.1: new: Last %d, Now %d", r.Last(), r.Now())
	}
	attaches(t, r, nHooks, 1, 0, api.ErrArg)
	attaches(t, r, nHooks-1, 1, 0, api.ErrNone)
	retires(t, r, 1, 0, api.ErrNone)
}

// TestNew: P24.1; each number at the least, -1, 0, 1, its greatest, one more, and the greatest of all, in all ways together: just those that all three parts take.
func TestNew(t *testing.T) {
	edges := []int{math.MinInt, -1, 0, 1, 4, 5, math.MaxInt}
	taken := 0
	for _, nHooks := range edges {
		for _, maps := range edges {
			for _, workers := range edges {
				_, a := hooks.New(nHooks)
				_, b := refs.New(maps)
				_, c := epoch.New(workers)
				r, e := registry.New(nHooks, maps, workers)
				switch {
				case a != api.OK || b != api.OK || c != api.OK:
					if r != nil || e != api.ErrArg {
						t.Errorf("P24.1: New(%d, %d, %d): %v, %v", nHooks, maps, workers, r, e)
					}
				case r == nil || e != api.OK:
					t.Errorf("P24.1: New(%d, %d, %d): %v, %v", nHooks, maps, workers, r, e)
				default:
					suits(t, r, nHooks, maps, workers)
					taken++
				}
			}
		}
	}
	if taken != 2*3*2 {
		t.Errorf("P24.1: %d were taken", taken)
	}
}

// TestNewAll: P24.1; each of the three through many numbers, the other two right ones, and all three through all that are taken.
func TestNewAll(t *testing.T) {
	all := ends()
	for n := -300; n <= 300; n++ {
		all = append(all, n)
	}
	for _, n := range all {
		for at, least := range []int{1, 0, 1} {
			ns := []int{2, 3, 1}
			ns[at] = n
			r, e := registry.New(ns[0], ns[1], ns[2])
			if n < least || n > 4 {
				if r != nil || e != api.ErrArg {
					t.Errorf("P24.1: New(%v): %v, %v", ns, r, e)
				}
			} else if r == nil || e != api.OK {
				t.Errorf("P24.1: New(%v): %v, %v", ns, r, e)
			}
		}
	}
	for nHooks := 1; nHooks <= 4; nHooks++ {
		for maps := 0; maps <= 4; maps++ {
			for workers := 1; workers <= 4; workers++ {
				suits(t, made(t, nHooks, maps, workers), nHooks, maps, workers)
			}
		}
	}
}

// TestNewIsNew: P24.1, rule 7; a new registry is empty, whatever was done to those made ahead of it.
func TestNewIsNew(t *testing.T) {
	for range 3 {
		r := made(t, 2, 3, 2)
		suits(t, r, 2, 3, 2)
		fill(t, r, 5, 1)
		attaches(t, r, 0, 2, 1, api.OK)
		enters(t, r, 1, 1)
		retires(t, r, 3, 2, api.OK)
		retires(t, r, 4, 3, api.OK)
		settles(t, r, 9)
	}
}

// TestLoad: P24.2; numbers from 1 on, each live, with its own module, and holding its maps in their order.
func TestLoad(t *testing.T) {
	r := made(t, 1, 4, 1)
	lists := [][]int{{2}, nil, {3, 1}, {0, 1, 2, 3}, {3, 2, 1, 0}, {1, 3, 0}, {0}, {2}, nil, {3}, {1, 2}, {2, 1}, {0, 3}, {1}, {3, 0, 2}, {2, 3, 0, 1}}
	var live []int
	count := []int{0, 0, 0, 0}
	for k, maps := range lists {
		loads(t, r, laid(t, good(-k, maps...)), k+1, api.OK)
		live = append(live, k+1)
		for _, m := range maps {
			count[m]++
		}
		there(t, "loaded", r, live, nil)
		counts(t, "loaded", r, count...)
	}
	for k, maps := range lists {
		is(t, r, k+1, good(-k, maps...))
		if got, ok := r.Held(k + 1); !slices.Equal(got, maps) || !ok {
			t.Errorf("P24.2: Held(%d): %v, %t, want %v", k+1, got, ok, maps)
		}
	}
	if v := r.Last(); v != 0 || r.Now() != 1 {
		t.Errorf("P24.2: Load gave version %d, now is %d", v, r.Now())
	}
}

// TestLoadAnyCode: P24.2, P24.6; codes of all kinds, up to the longest, come back as they were.
func TestLoadAnyCode(t *testing.T) {
	long := good(1)
	long.Code = append(slices.Repeat(long.Code[:1], 63), long.Code[1])
	for _, m := range []api.Module{
		long,
		module(t, "field r2 0, map r1 0, set r3 5, call 4, exit r0", 2),
		module(t, "set r1 5, sub r1 r1 1, loop r1 1 9, exit r1"),
		module(t, "field r1 1, jlt r1 16 2, set r0 0, exit r0, load r0 r1, store r0 15, exit r0", 3, 0),
		module(t, "set r0 -9223372036854775808, set r1 9223372036854775807, xor r7 r0 r1, exit r7", 1),
		module(t, "set r1 2, call 5, call 6, map r1 3, set r2 0, call 0, exit r0", 0, 2, 1, 3),
	} {
		r := made(t, 1, 4, 1)
		loads(t, r, laid(t, m), 1, api.OK)
		is(t, r, 1, m)
	}
}

// undecoded are bytes that Decode refuses, by its errors.
func undecoded(t *testing.T) map[api.Errno][][]byte {
	t.Helper()
	b := laid(t, good(5, 2))
	long := slices.Concat([]byte{0x54, 0x50, 1, 0, 65}, slices.Repeat([]byte{0, 0, 0, 8, 0}, 64), []byte{22, 0, 0, 0, 0})
	out := map[api.Errno][][]byte{
		api.ErrShort: {nil, {}},
		api.ErrLong:  {{0x54, 0x50, 1, 5}, {0x54, 0x50, 1, 5, 0, 1, 2, 3, 0, 2}, {0x54, 0x50, 1, 0, 65}, long},
		api.ErrForm: {{0}, {0x54, 0x51}, {0x54, 0x50, 2}, {0x54, 0x50, 1, 1, 4}, {0x54, 0x50, 1, 2, 1, 1}, {0x54, 0x50, 1, 0, 0},
			{0x54, 0x50, 1, 0, 1, 23}, {0x54, 0x50, 1, 0, 1, 22, 1, 0, 0, 0}, {0x54, 0x50, 1, 0x80, 0}, {0x54, 0x50, 1, 0, 1, 21, 0, 0, 0, 7}},
	}
	for n := range b {
		out[api.ErrShort] = append(out[api.ErrShort], b[:n])
	}
	for n := range 256 {
		out[api.ErrTrail] = append(out[api.ErrTrail], append(slices.Clone(b), byte(n)))
	}
	out[api.ErrTrail] = append(out[api.ErrTrail], append(slices.Clone(b), b...), append(slices.Clone(b), make([]byte, 5000)...))
	for e, all := range out {
		for _, one := range all {
			if _, _, got := wire.Decode(one); got != e {
				t.Fatalf("Decode(%x): %v, not %v", one, got, e)
			}
		}
	}
	return out
}

// unjudged are codes that Decode takes and Judge refuses, by its errors. (Those that it has for what Decode refuses can't come.)
func unjudged(t *testing.T) map[api.Errno][]api.Module {
	t.Helper()
	out := map[api.Errno][]api.Module{}
	for e, texts := range map[api.Errno][]string{
		api.ErrEnd:   {"set r0 1", "set r1 2, call 5"},
		api.ErrFlow:  {"jump 1, exit r0", "set r1 1, loop r1 2 1, exit r1"},
		api.ErrLoop:  {"jump 1, set r1 9, set r1 8, loop r1 2 1, exit r1", "set r0 0, set r1 1, loop r1 1 1, loop r1 1 1, exit r0"},
		api.ErrCost:  {"set r1 1, loop r1 1 200, loop r1 2 200, exit r1", "set r0 5, set r2 5, set r1 1, loop r1 1 126, exit r0"},
		api.ErrType:  {"exit r0", "map r1 0, exit r1", "set r1 5, map r1 0, set r2 1, loop r2 2 9, exit r2"},
		api.ErrBound: {"field r1 0, load r0 r1, exit r0", "map r1 3, set r0 0, exit r0", "field r1 0, call 5, exit r0"},
	} {
		for _, text := range texts {
			m := module(t, text, 2)
			if _, got := judge.Judge(m); got != e {
				t.Fatalf("%s: the judge says %v, not %v", text, got, e)
			}
			out[e] = append(out[e], m)
		}
	}
	return out
}

// some are registries of 2 hooks, 3 maps and 2 workers: a new one, one whose first and third program are live (the first is at hook 1), whose fourth is retiring and whose second is gone, and one of 16, of which number 2 is retiring; and the number that each gives next.
func some(t *testing.T) map[*registry.Registry]int {
	t.Helper()
	few, full := made(t, 2, 3, 2), made(t, 2, 3, 2)
	fill(t, few, 4, 2, 0)
	attaches(t, few, 1, 1, 1, api.OK)
	retires(t, few, 2, 2, api.OK)
	settles(t, few, 1, 2)
	enters(t, few, 1, 2)
	retires(t, few, 4, 3, api.OK)
	fill(t, full, 16, 1)
	attaches(t, full, 0, 5, 1, api.OK)
	retires(t, full, 2, 2, api.OK)
	return map[*registry.Registry]int{made(t, 2, 3, 2): 1, few: 5, full: 0}
}

// refused fails if a registry of some doesn't refuse these bytes with this error, leave all as it was, and give the number that is next to the next one that is good, unless it is full.
func refused(t *testing.T, b []byte, want api.Errno) {
	t.Helper()
	for r, next := range some(t) {
		for range 3 {
			loads(t, r, b, 0, want)
		}
		if next > 0 {
			loads(t, r, laid(t, good(7)), next, api.OK)
		} else {
			loads(t, r, laid(t, good(7)), 0, api.ErrFull)
		}
	}
}

// TestLoadUndecoded: P24.2; Decode's error, for each of its errors, of a new registry, of one with programs, and of a full one; no number is given, and nothing changes.
func TestLoadUndecoded(t *testing.T) {
	all := undecoded(t)
	for _, e := range []api.Errno{api.ErrShort, api.ErrLong, api.ErrForm, api.ErrTrail} {
		if len(all[e]) < 2 {
			t.Errorf("nothing is refused by %v", e)
		}
		for k, b := range all[e] {
			if k < 20 || k%16 == 0 {
				refused(t, b, e)
			}
		}
	}
}

// TestLoadUnjudged: P24.2; likewise Judge's error.
func TestLoadUnjudged(t *testing.T) {
	for e, ms := range unjudged(t) {
		for _, m := range ms {
			refused(t, laid(t, m), e)
		}
	}
}

// TestLoadOrder: P24.2; of several that apply, Decode's error goes first, then Judge's, then ErrNone, then ErrFull.
func TestLoadOrder(t *testing.T) {
	for e, ms := range unjudged(t) {
		for _, m := range ms {
			m.Maps = []int{3}
			refused(t, laid(t, m), e)
			refused(t, append(laid(t, m), 0), api.ErrTrail)
		}
	}
	far := laid(t, good(5, 3))
	refused(t, far, api.ErrNone)
	refused(t, far[:len(far)-1], api.ErrShort)
	refused(t, append(far, 1), api.ErrTrail)
}

// everyMaps hands on all lists of unlike numbers from 0 to 3.
func everyMaps(use func(maps []int)) {
	var longer func(maps []int)
	longer = func(maps []int) {
		use(maps)
		for m := range 4 {
			if !slices.Contains(maps, m) {
				longer(append(maps[:len(maps):len(maps)], m))
			}
		}
	}
	longer(nil)
}

// TestLoadMaps: P24.2; all lists of maps, in registries of each number of maps: ErrNone just where one of them isn't there, wherever it stands; also where 16 programs are there.
func TestLoadMaps(t *testing.T) {
	for maps := range 5 {
		full := made(t, 1, maps, 1)
		fill(t, full, 16)
		everyMaps(func(names []int) {
			r, b := made(t, 1, maps, 1), laid(t, good(5, names...))
			if len(names) > 0 && slices.Max(names) >= maps {
				loads(t, r, b, 0, api.ErrNone)
				loads(t, full, b, 0, api.ErrNone)
				return
			}
			loads(t, full, b, 0, api.ErrFull)
			loads(t, r, b, 1, api.OK)
			loads(t, r, b, 2, api.OK)
			is(t, r, 1, good(5, names...))
			want := make([]int, maps)
			for _, m := range names {
				want[m] = 2
			}
			counts(t, "loaded twice", r, want...)
			for _, prog := range []int{1, 2} {
				if got, ok := r.Held(prog); !slices.Equal(got, names) || !ok {
					t.Errorf("P24.2: Held(%d): %v, %t, want %v", prog, got, ok, names)
				}
			}
		})
	}
}

// TestFull: P24.2; the sixteenth program, and the seventeenth, with each number of them retiring, and each number of those gone: so many more come in, with numbers from 17 on, and no more.
func TestFull(t *testing.T) {
	for retiring := range 17 {
		for gone := range retiring + 1 {
			r := made(t, 1, 1, 1)
			fill(t, r, 15, 0)
			loads(t, r, laid(t, good(16, 0)), 16, api.OK)
			b := laid(t, good(5, 0))
			loads(t, r, b, 0, api.ErrFull)
			for k := range retiring {
				retires(t, r, 16-k, 2+k, api.OK)
				loads(t, r, b, 0, api.ErrFull)
			}
			if got := r.Settle(gone); len(got) != gone {
				t.Errorf("P24.5: Settle(%d): %v", gone, got)
			}
			counts(t, "gone", r, 16-gone)
			for k := range gone {
				loads(t, r, b, 17+k, api.OK)
			}
			loads(t, r, b, 0, api.ErrFull)
			counts(t, "full again", r, 16)
			if len(r.Live()) != 16-retiring+gone || len(r.Retiring()) != retiring-gone {
				t.Errorf("P24.6: live %v, retiring %v", r.Live(), r.Retiring())
			}
		}
	}
}

// TestNumbersRise: P24.2, P24.5; over many that are loaded and let go of, no number is given again, nor does a refused Load give one.
func TestNumbersRise(t *testing.T) {
	r := made(t, 1, 1, 1)
	b := laid(t, good(5, 0))
	for n := 1; n <= 300; n++ {
		if got, e := r.Load(b); got != n || e != api.OK {
			t.Fatalf("P24.2: Load: %d, %v, want %d", got, e, n)
		}
		if got, e := r.Load(b[:n%len(b)]); got != 0 || e != api.ErrShort {
			t.Fatalf("P24.2: Load: %d, %v", got, e)
		}
		if n > 10 {
			retires(t, r, n-10, n-9, api.OK)
			settles(t, r, 9, n-10)
			isnt(t, r, n-10)
		}
	}
	counts(t, "at the end", r, 10)
}

// TestLoadWhatIsHeld: P24.2; a number that holds other maps ahead of being given, by Hold, holds its module's maps behind it; a refused Load leaves it as it was.
func TestLoadWhatIsHeld(t *testing.T) {
	r := made(t, 1, 3, 1)
	for prog, maps := range [][]int{1: {0, 1}, 2: {2}, 3: nil} {
		r.Hold(prog, maps...)
	}
	loads(t, r, laid(t, good(1, 3)), 0, api.ErrNone)
	fill(t, r, 2, 2)
	if got, ok := r.Held(1); !slices.Equal(got, []int{2}) || !ok {
		t.Errorf("P24.2: Held(1): %v, %t", got, ok)
	}
	counts(t, "loaded", r, 0, 0, 2)
	if got, ok := r.Held(3); len(got) != 0 || !ok {
		t.Errorf("P24.2: Held(3): %v, %t", got, ok)
	}
	loads(t, r, laid(t, good(3, 1, 0)), 3, api.OK)
	counts(t, "loaded", r, 1, 1, 2)
}

// lives is a registry of so many hooks with programs of all kinds: 1 is live and at the first hook (version 1), 2 is live and at none, 3 is retiring, 4 is gone, 5 is live and was swapped out of the first hook; 6 was never given.
func lives(t *testing.T, nHooks int) *registry.Registry {
	t.Helper()
	r := made(t, nHooks, 1, 1)
	fill(t, r, 5, 0)
	attaches(t, r, 0, 5, 1, api.OK)
	swaps(t, r, 0, 1, 2, api.OK)
	retires(t, r, 4, 2, api.OK)
	settles(t, r, 1, 4)
	retires(t, r, 3, 3, api.OK)
	return r
}

// TestAttach: P24.3; at all hooks, and at numbers of none, all kinds of programs, and numbers of none.
func TestAttach(t *testing.T) {
	for nHooks := 1; nHooks <= 4; nHooks++ {
		for _, hook := range append(ends(), 1, 2, 3, 4, 5) {
			for _, prog := range append(ends(), 1, 2, 3, 4, 5, 6, 7) {
				r := lives(t, nHooks)
				switch {
				case hook < 0 || hook >= nHooks:
					attaches(t, r, hook, prog, 0, api.ErrArg)
				case prog != 1 && prog != 2 && prog != 5:
					attaches(t, r, hook, prog, 0, api.ErrNone)
				case hook == 0:
					attaches(t, r, hook, prog, 0, api.ErrBusy)
				default:
					attaches(t, r, hook, prog, 3, api.OK)
					at(t, r, hook, 3, prog)
				}
			}
		}
	}
}

// at fails if this program isn't at a hook, by this version.
func at(t *testing.T, r *registry.Registry, hook, version, prog int) {
	t.Helper()
	if v, p, ok := r.Current(hook); v != version || p != prog || !ok {
		t.Errorf("P24.3: Current(%d): %d, %d, %t, want %d, %d", hook, v, p, ok, version, prog)
	}
}

// TestSwap: P24.3; likewise. Swap to the program that is there is a new version, too.
func TestSwap(t *testing.T) {
	for nHooks := 1; nHooks <= 4; nHooks++ {
		for _, hook := range append(ends(), 1, 2, 3, 4, 5) {
			for _, prog := range append(ends(), 1, 2, 3, 4, 5, 6, 7) {
				r := lives(t, nHooks)
				switch {
				case hook < 0 || hook >= nHooks:
					swaps(t, r, hook, prog, 0, api.ErrArg)
				case prog != 1 && prog != 2 && prog != 5, hook > 0:
					swaps(t, r, hook, prog, 0, api.ErrNone)
				default:
					swaps(t, r, hook, prog, 3, api.OK)
					at(t, r, hook, 3, prog)
				}
			}
		}
	}
}

// TestPublish: P24.3; versions of Attach and Swap in turns, a program at several hooks, an emptied hook, a version that Fresh gave between, none that a refused call gave.
func TestPublish(t *testing.T) {
	r := made(t, 4, 1, 1)
	fill(t, r, 3, 0)
	attaches(t, r, 3, 2, 1, api.OK)
	attaches(t, r, 3, 2, 0, api.ErrBusy)
	attaches(t, r, 0, 2, 2, api.OK)
	swaps(t, r, 1, 2, 0, api.ErrNone)
	swaps(t, r, 3, 1, 3, api.OK)
	swaps(t, r, 3, 1, 4, api.OK)
	swaps(t, r, 4, 1, 0, api.ErrArg)
	swaps(t, r, 3, 9, 0, api.ErrNone)
	if v := r.Fresh(); v != 5 {
		t.Errorf("Fresh: %d", v)
	}
	if e := r.Detach(3, 0); e != api.OK {
		t.Errorf("Detach(3, 0): %v", e)
	}
	swaps(t, r, 3, 3, 0, api.ErrNone)
	attaches(t, r, 3, 3, 6, api.OK)
	attaches(t, r, 1, 3, 7, api.OK)
	at(t, r, 3, 6, 3)
	at(t, r, 1, 7, 3)
	if got := r.Where(3, 2, 1); !slices.Equal(got, []int{1, 3}) || r.Last() != 7 {
		t.Errorf("P24.3: Where: %v, Last %d", got, r.Last())
	}
	there(t, "published", r, []int{1, 2, 3}, nil)
}

// TestRetire: P24.4; all kinds of programs, and numbers of none.
func TestRetire(t *testing.T) {
	for nHooks := 1; nHooks <= 4; nHooks++ {
		for _, prog := range append(ends(), 1, 2, 3, 4, 5, 6, 7) {
			r := lives(t, nHooks)
			switch prog {
			case 1, 3:
				retires(t, r, prog, 0, api.ErrBusy)
				there(t, "refused", r, []int{1, 2, 5}, []int{3})
			case 2, 5:
				retires(t, r, prog, 4, api.OK)
				there(t, "retired", r, []int{1, 7 - prog}, []int{3, prog})
				is(t, r, prog, good(prog, 0))
				counts(t, "retired", r, 4)
				if r.Now() != 4 {
					t.Errorf("P24.4: now is %d", r.Now())
				}
				retires(t, r, prog, 0, api.ErrBusy)
			default:
				retires(t, r, prog, 0, api.ErrNone)
			}
		}
	}
}

// TestRetireAtHooks: P24.4; ErrBusy as long as it is at a hook, at whichever: at two, swapped out of one and still at another, detached, and if it was put there by the table itself, as a retiring one may be, too.
func TestRetireAtHooks(t *testing.T) {
	r := made(t, 4, 1, 1)
	fill(t, r, 3, 0)
	attaches(t, r, 1, 1, 1, api.OK)
	attaches(t, r, 3, 1, 2, api.OK)
	retires(t, r, 1, 0, api.ErrBusy)
	swaps(t, r, 1, 2, 3, api.OK)
	retires(t, r, 1, 0, api.ErrBusy)
	retires(t, r, 2, 0, api.ErrBusy)
	r.Detach(3)
	retires(t, r, 1, 2, api.OK)
	retires(t, r, 1, 0, api.ErrBusy)
	swaps(t, r, 1, 2, 4, api.OK)
	retires(t, r, 2, 0, api.ErrBusy)
	for hook := range 4 {
		r.Table.Attach(hook, 3)
		if hook != 1 {
			retires(t, r, 3, 0, api.ErrBusy)
			r.Detach(hook)
		}
	}
	r.Table.Swap(1, 1)
	retires(t, r, 2, 3, api.OK)
	retires(t, r, 1, 0, api.ErrBusy)
	retires(t, r, 3, 4, api.OK)
	settles(t, r, 9, 1, 2, 3)
	retires(t, r, 1, 0, api.ErrNone)
	r.Table.Attach(0, 9)
	retires(t, r, 9, 0, api.ErrNone)
}

// TestRetireEpochs: P24.4; the new epoch is one more than now, each time; a refused call doesn't move the clock on; one that others moved on counts.
func TestRetireEpochs(t *testing.T) {
	r := made(t, 1, 0, 2)
	fill(t, r, 10)
	retires(t, r, 4, 2, api.OK)
	retires(t, r, 9, 3, api.OK)
	retires(t, r, 4, 0, api.ErrBusy)
	retires(t, r, 99, 0, api.ErrNone)
	retires(t, r, 1, 4, api.OK)
	for n := 5; n <= 20; n++ {
		if got := r.Advance(); got != n {
			t.Errorf("Advance: %d, want %d", got, n)
		}
	}
	enters(t, r, 0, 20)
	retires(t, r, 10, 21, api.OK)
	enters(t, r, 1, 21)
	retires(t, r, 2, 22, api.OK)
	there(t, "retired", r, []int{3, 5, 6, 7, 8}, []int{4, 9, 1, 10, 2})
	settles(t, r, 9, 4, 9, 1)
	leaves(t, r, 0)
	settles(t, r, 9, 10)
	leaves(t, r, 1)
	settles(t, r, 9, 2)
}

// TestSettleMost: P24.5; with each number of them safe and some that aren't: none below 1, at most so many, and no more than are safe.
func TestSettleMost(t *testing.T) {
	for safe := range 8 {
		for unsafe := range 3 {
			for _, most := range append(ends(), 1, 2, 3, 4, 5, 6, 7, 8, 9, 16, 17) {
				r := made(t, 1, 1, 1)
				fill(t, r, 12, 0)
				var order []int
				for k := range safe {
					order = append(order, 1+(k*5)%12)
					retires(t, r, order[k], k+2, api.OK)
				}
				enters(t, r, 0, safe+1)
				for k := range unsafe {
					retires(t, r, 1+((safe+k)*5)%12, safe+k+2, api.OK)
				}
				late := r.Retiring()[safe:]
				n := min(max(most, 0), safe)
				settles(t, r, most, order[:n]...)
				if got := r.Retiring(); !slices.Equal(got, append(slices.Clone(order[n:]), late...)) {
					t.Errorf("P24.5: %d safe, behind Settle(%d): retiring %v", safe, most, got)
				}
				counts(t, "settled", r, 12-n)
				isnt(t, r, order[:n]...)
			}
		}
	}
}

// perms hands on all orders of the numbers from 0 on.
func perms(many int, use func(order []int)) {
	var longer func(order []int)
	longer = func(order []int) {
		if len(order) == many {
			use(order)
			return
		}
		for n := range many {
			if !slices.Contains(order, n) {
				longer(append(order[:len(order):len(order)], n))
			}
		}
	}
	longer(nil)
}

// TestSettleOrder: P24.5, P24.6; retired in any order, they go in that order, all at once or one by one; Live rises all along.
func TestSettleOrder(t *testing.T) {
	perms(5, func(order []int) {
		for _, most := range []int{1, 2, 5, math.MaxInt} {
			r := made(t, 1, 1, 1)
			fill(t, r, 5, 0)
			var retiring []int
			for k, n := range order {
				retires(t, r, n+1, k+2, api.OK)
				retiring = append(retiring, n+1)
				there(t, "retired", r, without([]int{1, 2, 3, 4, 5}, retiring), retiring)
			}
			for len(retiring) > 0 {
				n := min(most, len(retiring))
				settles(t, r, most, retiring[:n]...)
				retiring = retiring[n:]
				there(t, "settled", r, nil, retiring)
				counts(t, "settled", r, len(retiring))
			}
			settles(t, r, most)
		}
	})
}

// without are those of a list that aren't in another.
func without(list, other []int) []int {
	return slices.DeleteFunc(list, func(n int) bool { return slices.Contains(other, n) })
}

// TestSettleGrace: P24.5, P24.7; four workers, one of which entered ahead of each of four Retires and one behind, leave in any order: each program goes as soon as none is in who entered ahead of its Retire, though some are who entered behind it.
func TestSettleGrace(t *testing.T) {
	perms(4, func(order []int) {
		r := made(t, 1, 2, 4)
		fill(t, r, 4, 1)
		for k := range 4 {
			enters(t, r, k, k+1)
			retires(t, r, 4-k, k+2, api.OK)
		}
		in, left := []int{0, 1, 2, 3}, 4
		for _, worker := range order {
			settles(t, r, 9)
			leaves(t, r, worker)
			in = without(in, []int{worker})
			// Program 4 - k was retired behind those from 0 to k entered.
			var gone []int
			for 4-left < 4 && (len(in) == 0 || in[0] > 4-left) {
				gone = append(gone, left)
				left--
			}
			settles(t, r, 9, gone...)
			counts(t, "left", r, 0, left)
		}
		there(t, "all left", r, nil, nil)
	})
}

// TestSettleEdge: P24.5; one worker in an epoch just ahead of a Retire's, in just that one, in the one behind it.
func TestSettleEdge(t *testing.T) {
	ahead, same, behind := made(t, 1, 0, 1), made(t, 1, 0, 1), made(t, 1, 0, 1)
	for _, r := range []*registry.Registry{ahead, same, behind} {
		fill(t, r, 1)
		for range 7 {
			r.Advance()
		}
	}
	enters(t, ahead, 0, 8)
	retires(t, ahead, 1, 9, api.OK)
	settles(t, ahead, 1)
	for range 3 {
		ahead.Advance()
		settles(t, ahead, 1)
	}
	leaves(t, ahead, 0)
	enters(t, ahead, 0, 12)
	settles(t, ahead, 1, 1)

	retires(t, same, 1, 9, api.OK)
	enters(t, same, 0, 9)
	settles(t, same, 1, 1)

	retires(t, behind, 1, 9, api.OK)
	behind.Advance()
	enters(t, behind, 0, 10)
	settles(t, behind, 1, 1)
}

// TestSettleLater: P24.5; several are safe, and an earlier one was not yet asked for when a later one is: the earlier one goes first.
func TestSettleLater(t *testing.T) {
	r := made(t, 1, 3, 2)
	fill(t, r, 4, 2, 1)
	enters(t, r, 0, 1)
	retires(t, r, 3, 2, api.OK)
	leaves(t, r, 0)
	enters(t, r, 0, 2)
	retires(t, r, 1, 3, api.OK)
	settles(t, r, 0)
	leaves(t, r, 0)
	enters(t, r, 1, 3)
	retires(t, r, 4, 4, api.OK)
	settles(t, r, 1, 3)
	there(t, "one went", r, []int{2}, []int{1, 4})
	settles(t, r, 1, 1)
	settles(t, r, 1)
	there(t, "two went", r, []int{2}, []int{4})
	leaves(t, r, 1)
	retires(t, r, 2, 5, api.OK)
	settles(t, r, 1, 4)
	settles(t, r, 1, 2)
	counts(t, "all went", r, 0, 0, 0)
}

// TestSettleDrops: P24.5, P24.7; just what went holds no more, and just its maps' Counts fall.
func TestSettleDrops(t *testing.T) {
	r := made(t, 1, 4, 1)
	for n, maps := range [][]int{{0, 1}, {2, 1}, nil, {3, 2, 1, 0}, {1}} {
		loads(t, r, laid(t, good(n+1, maps...)), n+1, api.OK)
	}
	for k, prog := range []int{2, 3, 4, 1} {
		retires(t, r, prog, k+2, api.OK)
	}
	counts(t, "retired", r, 2, 4, 2, 1)
	settles(t, r, 1, 2)
	counts(t, "2 went", r, 2, 3, 1, 1)
	settles(t, r, 1, 3)
	counts(t, "3 went", r, 2, 3, 1, 1)
	settles(t, r, 2, 4, 1)
	counts(t, "4 and 1 went", r, 0, 1, 0, 0)
	for _, prog := range []int{1, 2, 3, 4} {
		if maps, ok := r.Held(prog); len(maps) != 0 || ok {
			t.Errorf("P24.5: Held(%d): %v, %t", prog, maps, ok)
		}
	}
	if maps, ok := r.Held(5); !slices.Equal(maps, []int{1}) || !ok {
		t.Errorf("P24.5: Held(5): %v, %t", maps, ok)
	}
	is(t, r, 5, good(5, 1))
}

// TestSettleWhatWasDropped: P24.5; one that was dropped by Drop goes all the same, and the others drop their maps, as does one that holds other maps by then.
func TestSettleWhatWasDropped(t *testing.T) {
	r := made(t, 1, 2, 1)
	fill(t, r, 4, 0)
	r.Drop(2, 3)
	r.Hold(3, 1)
	counts(t, "dropped", r, 2, 1)
	for prog := 1; prog <= 3; prog++ {
		retires(t, r, prog, prog+1, api.OK)
	}
	settles(t, r, 9, 1, 2, 3)
	counts(t, "settled", r, 1, 0)
	there(t, "settled", r, []int{4}, nil)
}

// TestHeldWhileItWaits: P24.7; a retiring one holds its maps, and has its module, till it goes.
func TestHeldWhileItWaits(t *testing.T) {
	r := made(t, 1, 3, 1)
	fill(t, r, 2, 2, 0)
	enters(t, r, 0, 1)
	retires(t, r, 1, 2, api.OK)
	for range 5 {
		settles(t, r, 9)
		counts(t, "waiting", r, 2, 0, 2)
		is(t, r, 1, good(1, 2, 0))
		if maps, ok := r.Held(1); !slices.Equal(maps, []int{2, 0}) || !ok {
			t.Errorf("P24.7: Held(1): %v, %t", maps, ok)
		}
		r.Advance()
	}
	leaves(t, r, 0)
	counts(t, "not yet asked for", r, 2, 0, 2)
	settles(t, r, 9, 1)
	counts(t, "settled", r, 1, 0, 1)
	settles(t, r, 9)
}

// TestGone: P24.3 to P24.6; of one that is gone nothing is left, though others are loaded, and it comes back by nothing.
func TestGone(t *testing.T) {
	r := made(t, 2, 2, 1)
	fill(t, r, 2, 1)
	attaches(t, r, 0, 2, 1, api.OK)
	retires(t, r, 1, 2, api.OK)
	settles(t, r, 1, 1)
	for n := 3; n < 12; n++ {
		isnt(t, r, 1)
		attaches(t, r, 1, 1, 0, api.ErrNone)
		swaps(t, r, 0, 1, 0, api.ErrNone)
		retires(t, r, 1, 0, api.ErrNone)
		settles(t, r, 9)
		if holders := r.Holders(1); slices.Contains(holders, 1) {
			t.Errorf("P24.5: Holders(1): %v", holders)
		}
		loads(t, r, laid(t, good(n, 1)), n, api.OK)
	}
}

// TestOneLife: P24.6; Module, Live and Retiring behind each call of some programs' lives, taken and refused.
func TestOneLife(t *testing.T) {
	r := made(t, 2, 2, 1)
	a, b := good(1, 1), good(2)
	of := func(when string, live, retiring []int) {
		t.Helper()
		there(t, when, r, live, retiring)
		isnt(t, r, append(ends(), 3, 4)...)
		for prog, m := range map[int]api.Module{1: a, 2: b} {
			if slices.Contains(live, prog) || slices.Contains(retiring, prog) {
				is(t, r, prog, m)
			} else {
				isnt(t, r, prog)
			}
		}
	}
	of("new", nil, nil)
	loads(t, r, nil, 0, api.ErrShort)
	of("refused", nil, nil)
	loads(t, r, laid(t, a), 1, api.OK)
	of("one", []int{1}, nil)
	loads(t, r, laid(t, b), 2, api.OK)
	of("two", []int{1, 2}, nil)
	attaches(t, r, 1, 2, 1, api.OK)
	of("attached", []int{1, 2}, nil)
	retires(t, r, 2, 0, api.ErrBusy)
	of("busy", []int{1, 2}, nil)
	enters(t, r, 0, 1)
	swaps(t, r, 1, 1, 2, api.OK)
	of("swapped", []int{1, 2}, nil)
	retires(t, r, 2, 2, api.OK)
	of("retired", []int{1}, []int{2})
	r.Detach(1)
	retires(t, r, 1, 3, api.OK)
	of("both", nil, []int{2, 1})
	settles(t, r, 9)
	of("not safe", nil, []int{2, 1})
	leaves(t, r, 0)
	of("left", nil, []int{2, 1})
	settles(t, r, -1)
	of("none asked for", nil, []int{2, 1})
	settles(t, r, 1, 2)
	of("one gone", nil, []int{1})
	settles(t, r, 1, 1)
	of("both gone", nil, nil)
}

// TestBytesStay: P24.8; bytes that are handed to Load, and their spare room, stay as they were, and may be written over behind it with nothing changed.
func TestBytesStay(t *testing.T) {
	all := [][]byte{laid(t, good(5, 2, 0)), laid(t, module(t, "field r2 0, map r1 0, set r3 5, call 4, exit r0", 1)), laid(t, good(3, 3))}
	for _, bs := range undecoded(t) {
		all = append(all, bs[len(bs)-1])
	}
	for _, ms := range unjudged(t) {
		all = append(all, laid(t, ms[0]))
	}
	for _, b := range all {
		for r := range some(t) {
			whole := append(slices.Clone(b), 1, 2, 3, 4)
			handed := whole[:len(b)]
			r.Load(handed)
			if !slices.Equal(whole, append(slices.Clone(b), 1, 2, 3, 4)) {
				t.Errorf("P24.8: %x has become %x", b, whole)
			}
			before := look(t, r)
			for k := range whole {
				whole[k] ^= 0xff
			}
			if behind := look(t, r); behind != before {
				t.Errorf("P24.8: bytes written over: %+v, not %+v", behind, before)
			}
		}
	}
}

// TestAnswersAreNew: P24.8; what Module, Live, Retiring and Settle answer may be written over, its spare room too, with nothing changed, and no two answers share any.
func TestAnswersAreNew(t *testing.T) {
	r := made(t, 2, 4, 1)
	fill(t, r, 9, 3, 1, 2)
	attaches(t, r, 0, 2, 1, api.OK)
	for k, prog := range []int{5, 1, 9, 3} {
		retires(t, r, prog, k+2, api.OK)
	}
	before := look(t, r)
	for range 3 {
		spoil(r.Live())
		spoil(r.Retiring())
		for prog := 1; prog <= 9; prog++ {
			m, _ := r.Module(prog)
			other, _ := r.Module(prog)
			spoilModule(m)
			if !wire.Same(other, good(prog, 3, 1, 2)) {
				t.Errorf("P24.8: two answers of Module(%d) share memory: %v", prog, other)
			}
		}
		a, b := r.Live(), r.Live()
		c, d := r.Retiring(), r.Retiring()
		spoil(a)
		spoil(c)
		if !slices.Equal(b, []int{2, 4, 6, 7, 8}) || !slices.Equal(d, []int{5, 1, 9, 3}) {
			t.Errorf("P24.8: two answers share memory: %v, %v", b, d)
		}
		if behind := look(t, r); behind != before {
			t.Fatalf("P24.8: answers written over: %+v, not %+v", behind, before)
		}
	}
	gone := r.Settle(2)
	before = look(t, r)
	spoil(gone)
	if behind := look(t, r); behind != before {
		t.Errorf("P24.8: Settle's answer written over: %+v, not %+v", behind, before)
	}
	settles(t, r, 9, 9, 3)
}

// TestAnswersStay: P24.8; what was answered stays as it was, whatever is called behind it.
func TestAnswersStay(t *testing.T) {
	r := made(t, 2, 4, 1)
	fill(t, r, 6, 3, 1)
	retires(t, r, 4, 2, api.OK)
	retires(t, r, 2, 3, api.OK)
	live, retiring := r.Live(), r.Retiring()
	m, _ := r.Module(4)
	gone := r.Settle(1)
	for k, prog := range []int{6, 1, 3} {
		retires(t, r, prog, k+4, api.OK)
	}
	settles(t, r, 2, 2, 6)
	for n := 7; n <= 9; n++ {
		loads(t, r, laid(t, good(n, 0)), n, api.OK)
	}
	settles(t, r, 9, 1, 3)
	if !slices.Equal(live, []int{1, 3, 5, 6}) || !slices.Equal(retiring, []int{4, 2}) || !slices.Equal(gone, []int{4}) {
		t.Errorf("P24.8: live %v, retiring %v, gone %v", live, retiring, gone)
	}
	if !wire.Same(m, good(4, 3, 1)) {
		t.Errorf("P24.8: Module(4) has become %v", m)
	}
}

// TestPromoted: a registry has the methods of its parts, with their errors, and they are those of its parts.
func TestPromoted(t *testing.T) {
	r := made(t, 2, 3, 2)
	fill(t, r, 2, 1)
	attaches(t, r, 1, 2, 1, api.OK)
	if v, p, ok := r.Table.Current(1); v != 1 || p != 2 || !ok || r.Versions.Last() != 1 {
		t.Errorf("the table's Current(1): %d, %d, %t", v, p, ok)
	}
	if n, e := r.Refs.Count(1); n != 2 || e != api.OK {
		t.Errorf("the refs' Count(1): %d, %v", n, e)
	}
	enters(t, r, 1, 1)
	if n, in := r.Clock.In(1); n != 1 || !in {
		t.Errorf("the clock's In(1): %d, %t", n, in)
	}
	before := look(t, r)
	_, in := r.Enter(1)
	_, noWorker := r.Enter(2)
	_, noMap := r.Count(3)
	got := []api.Errno{in, noWorker, noMap, r.Leave(0), r.Leave(0, 0), r.Detach(0), r.Detach(2), r.Hold(1, 0), r.Hold(5, 3), r.Drop(5), r.Drop(1, 1)}
	if want := []api.Errno{42, 2, 2, 41, 2, 41, 2, 42, 2, 41, 2}; !slices.Equal(got, want) {
		t.Errorf("calls that are refused: %v, want %v", got, want)
	}
	stays(t, "the parts' calls", r, before, false)
	r.Clock.Leave(1)
	r.Table.Detach(1)
	r.Refs.Hold(-7, 0, 1)
	if r.Oldest() != r.Now() || len(r.Where(2)) != 0 || !slices.Equal(r.Holders(1), []int{-7, 1, 2}) {
		t.Errorf("through its parts: %+v", look(t, r))
	}
	retires(t, r, 2, 2, api.OK)
	settles(t, r, 9, 2)
	counts(t, "through its parts", r, 1, 2)
}

// TestTwoRegistries: rule 7; whatever is done to one, another stays as it was.
func TestTwoRegistries(t *testing.T) {
	a, b := made(t, 2, 3, 1), made(t, 2, 3, 1)
	fill(t, a, 3, 2)
	attaches(t, a, 0, 1, 1, api.OK)
	enters(t, a, 0, 1)
	suits(t, b, 2, 3, 1)
	before := look(t, a)
	fill(t, b, 16, 2)
	attaches(t, b, 1, 3, 1, api.OK)
	for prog := 4; prog <= 9; prog++ {
		retires(t, b, prog, prog-2, api.OK)
	}
	settles(t, b, 4, 4, 5, 6, 7)
	if behind := look(t, a); behind != before {
		t.Errorf("P24.8: beside another: %+v, not %+v", behind, before)
	}
	retires(t, a, 2, 2, api.OK)
	settles(t, a, 9)
	settles(t, b, 9, 8, 9)
	loads(t, a, laid(t, good(4)), 4, api.OK)
	loads(t, b, laid(t, good(17)), 17, api.OK)
}
