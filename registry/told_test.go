package registry_test

import (
	"math"
	"math/rand"
	"slices"
	"testing"

	"tappet/api"
	"tappet/judge"
	"tappet/registry"
	"tappet/wire"
)

// keeper is a registry or what is told of one: all calls, those that go to the table itself too.
type keeper interface {
	asked
	Load(b []byte) (int, api.Errno)
	Attach(hook, prog int) (int, api.Errno)
	Swap(hook, prog int) (int, api.Errno)
	tableAttach(hook, prog int) (int, api.Errno)
	tableSwap(hook, prog int) (int, api.Errno)
	Detach(hooks ...int) api.Errno
	Fresh() int
	Retire(prog int) (int, api.Errno)
	Settle(most int) []int
	Enter(worker int) (int, api.Errno)
	Leave(workers ...int) api.Errno
	Advance() int
	Hold(prog int, maps ...int) api.Errno
	Drop(progs ...int) api.Errno
}

// real is a registry, as a keeper.
type real struct {
	*registry.Registry
}

func (r real) tableAttach(hook, prog int) (int, api.Errno) { return r.Table.Attach(hook, prog) }
func (r real) tableSwap(hook, prog int) (int, api.Errno)   { return r.Table.Swap(hook, prog) }

// known is a program that was loaded. If it was retired, behind is the epoch that was answered, and waits are the stays of workers that were in then.
type known struct {
	module api.Module
	behind int
	waits  []int
	gone   bool
}

// post is what is at a hook: a version and a program, or (version 0) nothing.
type post struct {
	version, prog int
}

// stay is a worker's being in, from an Enter on; stays are numbered.
type stay struct {
	number, worker, epoch int
}

// hold is a program and the maps that it holds.
type hold struct {
	prog int
	maps []int
}

// account is what the chapters tell of a registry, in plain lists: of each program from the first on (the place is one less than the number), of each hook, who is in, and who holds what.
type account struct {
	maps, workers int
	progs         []known
	posts         []post
	stays         []stay
	holds         []hold
	last, now     int
	entered       int
}

// opened is the account of a new registry.
func opened(s shape) *account {
	return &account{maps: s.maps, workers: s.workers, posts: make([]post, s.hooks), now: 1}
}

// those are the programs that are there, rising: the live ones, or the retiring ones.
func (a *account) those(retiring bool) []int {
	var out []int
	for at, p := range a.progs {
		if !p.gone && (p.behind > 0) == retiring {
			out = append(out, at+1)
		}
	}
	return out
}

func (a *account) Live() []int {
	return a.those(false)
}

func (a *account) Retiring() []int {
	out := a.those(true)
	slices.SortFunc(out, func(x, y int) int { return a.progs[x-1].behind - a.progs[y-1].behind })
	return out
}

func (a *account) Module(prog int) (api.Module, bool) {
	if prog < 1 || prog > len(a.progs) || a.progs[prog-1].gone {
		return api.Module{}, false
	}
	return a.progs[prog-1].module, true
}

func (a *account) Load(b []byte) (int, api.Errno) {
	m, _, e := wire.Decode(b)
	if e != 0 {
		return 0, e
	}
	if _, e := judge.Judge(m); e != 0 {
		return 0, e
	}
	if slices.ContainsFunc(m.Maps, func(n int) bool { return n >= a.maps }) {
		return 0, 41
	}
	if len(a.those(false))+len(a.those(true)) > 15 {
		return 0, 40
	}
	a.progs = append(a.progs, known{module: m})
	a.lets(len(a.progs))
	a.holds = append(a.holds, hold{len(a.progs), m.Maps})
	return len(a.progs), 0
}

// lets is that a program holds no more, if it did.
func (a *account) lets(prog int) {
	a.holds = slices.DeleteFunc(a.holds, func(h hold) bool { return h.prog == prog })
}

func (a *account) Attach(hook, prog int) (int, api.Errno) {
	if hook < 0 || hook >= len(a.posts) {
		return 0, 2
	}
	if !slices.Contains(a.Live(), prog) {
		return 0, 41
	}
	return a.tableAttach(hook, prog)
}

func (a *account) Swap(hook, prog int) (int, api.Errno) {
	if hook < 0 || hook >= len(a.posts) {
		return 0, 2
	}
	if !slices.Contains(a.Live(), prog) {
		return 0, 41
	}
	return a.tableSwap(hook, prog)
}

func (a *account) tableAttach(hook, prog int) (int, api.Errno) {
	if hook < 0 || hook >= len(a.posts) {
		return 0, 2
	}
	if a.posts[hook].version > 0 {
		return 0, 42
	}
	a.posts[hook] = post{a.Fresh(), prog}
	return a.last, 0
}

func (a *account) tableSwap(hook, prog int) (int, api.Errno) {
	if hook < 0 || hook >= len(a.posts) {
		return 0, 2
	}
	if a.posts[hook].version == 0 {
		return 0, 41
	}
	a.posts[hook] = post{a.Fresh(), prog}
	return a.last, 0
}

// once tells whether these are of so many, each once.
func once(many int, ns []int) bool {
	for k, n := range ns {
		if n < 0 || n >= many || slices.Contains(ns[:k], n) {
			return false
		}
	}
	return true
}

func (a *account) Detach(hooks ...int) api.Errno {
	if !once(len(a.posts), hooks) {
		return 2
	}
	for _, hook := range hooks {
		if a.posts[hook].version == 0 {
			return 41
		}
	}
	for _, hook := range hooks {
		a.posts[hook] = post{}
	}
	return 0
}

func (a *account) Fresh() int {
	a.last++
	return a.last
}

func (a *account) Last() int {
	return a.last
}

func (a *account) Current(hook int) (int, int, bool) {
	if hook < 0 || hook >= len(a.posts) || a.posts[hook].version == 0 {
		return 0, 0, false
	}
	return a.posts[hook].version, a.posts[hook].prog, true
}

func (a *account) Where(progs ...int) []int {
	var out []int
	for hook, p := range a.posts {
		if p.version > 0 && slices.Contains(progs, p.prog) {
			out = append(out, hook)
		}
	}
	return out
}

func (a *account) Retire(prog int) (int, api.Errno) {
	switch {
	case slices.Contains(a.Retiring(), prog):
		return 0, 42
	case !slices.Contains(a.Live(), prog):
		return 0, 41
	case len(a.Where(prog)) > 0:
		return 0, 42
	}
	p := &a.progs[prog-1]
	p.behind = a.Advance()
	for _, s := range a.stays {
		p.waits = append(p.waits, s.number)
	}
	return p.behind, 0
}

// Settle has those go of whose stays none is left.
func (a *account) Settle(most int) []int {
	var gone []int
	for _, prog := range a.Retiring() {
		waits := slices.ContainsFunc(a.stays, func(s stay) bool { return slices.Contains(a.progs[prog-1].waits, s.number) })
		if !waits && len(gone) < most {
			a.progs[prog-1].gone = true
			a.lets(prog)
			gone = append(gone, prog)
		}
	}
	return gone
}

func (a *account) Enter(worker int) (int, api.Errno) {
	if worker < 0 || worker >= a.workers {
		return 0, 2
	}
	if _, in := a.In(worker); in {
		return 0, 42
	}
	a.entered++
	a.stays = append(a.stays, stay{a.entered, worker, a.now})
	return a.now, 0
}

func (a *account) Leave(workers ...int) api.Errno {
	if !once(a.workers, workers) {
		return 2
	}
	for _, w := range workers {
		if _, in := a.In(w); !in {
			return 41
		}
	}
	a.stays = slices.DeleteFunc(a.stays, func(s stay) bool { return slices.Contains(workers, s.worker) })
	return 0
}

func (a *account) Advance() int {
	a.now++
	return a.now
}

func (a *account) Now() int {
	return a.now
}

func (a *account) In(worker int) (int, bool) {
	for _, s := range a.stays {
		if s.worker == worker {
			return s.epoch, true
		}
	}
	return 0, false
}

func (a *account) Oldest() int {
	least := a.now
	for _, s := range a.stays {
		least = min(least, s.epoch)
	}
	return least
}

func (a *account) Safe(epoch int) bool {
	return !slices.ContainsFunc(a.stays, func(s stay) bool { return s.epoch < epoch })
}

func (a *account) Hold(prog int, maps ...int) api.Errno {
	if !once(a.maps, maps) {
		return 2
	}
	if _, ok := a.Held(prog); ok {
		return 42
	}
	a.holds = append(a.holds, hold{prog, slices.Clone(maps)})
	return 0
}

func (a *account) Drop(progs ...int) api.Errno {
	for k, prog := range progs {
		if slices.Contains(progs[:k], prog) {
			return 2
		}
	}
	for _, prog := range progs {
		if _, ok := a.Held(prog); !ok {
			return 41
		}
	}
	for _, prog := range progs {
		a.lets(prog)
	}
	return 0
}

func (a *account) Held(prog int) ([]int, bool) {
	for _, h := range a.holds {
		if h.prog == prog {
			return h.maps, true
		}
	}
	return nil, false
}

func (a *account) Holders(m int) []int {
	var out []int
	for _, h := range a.holds {
		if slices.Contains(h.maps, m) {
			out = append(out, h.prog)
		}
	}
	slices.Sort(out)
	return out
}

func (a *account) Count(m int) (int, api.Errno) {
	if m < 0 || m >= a.maps {
		return 0, 2
	}
	return len(a.Holders(m)), 0
}

// shape is of how many hooks, maps and workers a registry is.
type shape struct {
	hooks, maps, workers int
}

// what is which call a turn makes. Those from tableAttach on go past the registry to the table or the refs; those from holdMaps on make of what is held what it would never be by the registry's own calls.
type what int

const (
	load what = iota
	attach
	swap
	detach
	fresh
	retire
	settle
	enter
	leave
	advance
	tableAttach
	tableSwap
	holdMaps
	drop
)

// turn is a call and its arguments; at stands for a hook, a worker, a program (of Retire and Hold) or most.
type turn struct {
	what     what
	at, prog int
	bytes    []byte
	list     []int
}

// answer is what a turn was answered, and what can be read of the registry behind it.
type answer struct {
	n    int
	e    api.Errno
	gone []int
	view view
}

// same tells whether two answers are equal, where nil and empty are one.
func same(a, b answer) bool {
	return a.n == b.n && a.e == b.e && slices.Equal(a.gone, b.gone) && a.view == b.view
}

// play takes a turn with a registry, or with the account of one, and reads it. up is as far as programs are asked for.
func play(k keeper, s turn, up int) answer {
	a := do(k, s)
	a.view = glance(k, up)
	return a
}

// do takes a turn.
func do(k keeper, s turn) answer {
	var a answer
	switch s.what {
	case load:
		a.n, a.e = k.Load(s.bytes)
	case attach:
		a.n, a.e = k.Attach(s.at, s.prog)
	case swap:
		a.n, a.e = k.Swap(s.at, s.prog)
	case detach:
		a.e = k.Detach(s.list...)
	case fresh:
		a.n = k.Fresh()
	case retire:
		a.n, a.e = k.Retire(s.at)
	case settle:
		a.gone = k.Settle(s.at)
	case enter:
		a.n, a.e = k.Enter(s.at)
	case leave:
		a.e = k.Leave(s.list...)
	case advance:
		a.n = k.Advance()
	case tableAttach:
		a.n, a.e = k.tableAttach(s.at, s.prog)
	case tableSwap:
		a.n, a.e = k.tableSwap(s.at, s.prog)
	case holdMaps:
		a.e = k.Hold(s.at, s.list...)
	case drop:
		a.e = k.Drop(s.list...)
	}
	return a
}

// handed is a turn whose lists are copies.
func (s turn) handed() turn {
	s.bytes, s.list = slices.Clone(s.bytes), slices.Clone(s.list)
	return s
}

// spoil writes over a turn's lists.
func (s turn) spoil() {
	spoil(s.list)
	for k := range s.bytes {
		s.bytes[k] ^= 0x55
	}
}

// met counts what was met in scripts, so that a test can tell whether it saw enough.
type met struct {
	gone, kept, full int
	of               map[what]map[api.Errno]int
}

// see counts a turn and its answer.
func (m *met) see(s turn, a answer, r *registry.Registry) {
	if m.of == nil {
		m.of = map[what]map[api.Errno]int{}
	}
	if m.of[s.what] == nil {
		m.of[s.what] = map[api.Errno]int{}
	}
	m.of[s.what][a.e]++
	if s.what == settle {
		m.gone += len(a.gone)
		m.kept += len(r.Retiring())
	}
	if len(r.Live())+len(r.Retiring()) == 16 {
		m.full++
	}
}

// agree plays a script on a new registry, held call by call against the account of it. What each call was handed stays as it was, and is written over behind it.
func agree(t *testing.T, s shape, turns []turn, seen *met) {
	t.Helper()
	r, a := made(t, s.hooks, s.maps, s.workers), opened(s)
	own, gone := true, map[int]bool{}
	for at, one := range turns {
		up := len(a.progs) + 2
		handed := one.handed()
		got, want := play(real{r}, handed, up), play(a, one, up)
		if !same(got, want) {
			t.Fatalf("%v, turn %d, %+v: %+v, want %+v", s, at, one, got, want)
		}
		if !slices.Equal(handed.bytes, one.bytes) || !slices.Equal(handed.list, one.list) {
			t.Fatalf("%v, turn %d, %+v: handed on it has become %+v", s, at, one, handed)
		}
		handed.spoil()
		own = own && one.what < holdMaps
		if own {
			counted(t, s, r)
		}
		for _, prog := range got.gone {
			if gone[prog] {
				t.Fatalf("P24.7: %v, turn %d: %d is let go of twice", s, at, prog)
			}
			gone[prog] = true
		}
		seen.see(one, got, r)
	}
}

// counted fails if a map's Count isn't how many programs, live or retiring, name it.
func counted(t *testing.T, s shape, r *registry.Registry) {
	t.Helper()
	for m := range s.maps {
		var names []int
		for _, prog := range append(r.Live(), r.Retiring()...) {
			if module, _ := r.Module(prog); slices.Contains(module.Maps, m) {
				names = append(names, prog)
			}
		}
		slices.Sort(names)
		if n, e := r.Count(m); n != len(names) || e != api.OK || !slices.Equal(r.Holders(m), names) {
			t.Fatalf("P24.7: Count(%d): %d, %v, but %v name it", m, n, e, names)
		}
	}
}

// source is where the choices of a script come from.
type source func(below int) int

// drawn is a source of random choices.
func drawn(seed int64) source {
	return rand.New(rand.NewSource(seed)).Intn
}

// of is one of these.
func (c source) of(ns ...int) int {
	return ns[c(len(ns))]
}

// small is a number below many mostly, or one that isn't.
func (c source) small(many int) int {
	if c(12) == 0 || many == 0 {
		return c.of(append(ends(), many, many+1, 4, 5)...)
	}
	return c(many)
}

// some are small numbers, mostly one, and mostly each once.
func (c source) some(many int) []int {
	out := []int{c.small(many)}
	if c(5) > 0 {
		return out
	}
	out = nil
	for range c(5) {
		out = append(out, c.small(many))
	}
	return out
}

// program is the number of a live one mostly, or of a retiring one, any that was given, or none.
func (c source) program(a *account) int {
	switch k := c(20); {
	case k < 12 && len(a.Live()) > 0:
		return c.of(a.Live()...)
	case k < 15 && len(a.Retiring()) > 0:
		return c.of(a.Retiring()...)
	case k < 18:
		return 1 + c(len(a.progs)+2)
	}
	return c.of(ends()...)
}

// names is a list of maps: those that there are mostly, each once, in any order.
func (c source) names(a *account) []int {
	var out []int
	for range c(5) {
		m := c(max(1, a.maps))
		if c(20) == 0 {
			m = c(4)
		}
		if !slices.Contains(out, m) && (m < a.maps || c(4) == 0) {
			out = append(out, m)
		}
	}
	return out
}

// load is a Load of a good module mostly.
func (c source) load(a *account) turn {
	m := api.Module{Maps: c.names(a), Code: good(c(1000)).Code}
	switch c(30) {
	case 0:
		m.Code = m.Code[1:] // exit r0, which is unset
	case 1:
		m.Code = append(slices.Repeat(m.Code[:1], c(70)), m.Code...)
	case 2:
		m.Code = m.Code[:1]
	case 3:
		m.Code = append([]api.Inst{{Op: api.OpMap, D: 1, Imm: int64(c(4))}, {Op: api.OpJump, D: c(6)}}, m.Code...)
	case 4:
		m.Maps = []int{c(5), c(5)}
	}
	b, _ := wire.Encode(m)
	switch {
	case len(b) == 0:
	case c(20) == 0:
		b = b[:c(len(b))]
	case c(20) == 0:
		b[c(len(b))] ^= 1 << c(8)
	case c(20) == 0:
		b = append(b, byte(c(256)))
	}
	return turn{what: load, bytes: b}
}

// turn is a call of any kind, of which those past the registry are wild.
func (c source) turn(a *account, wild bool) turn {
	if wild && c(8) == 0 {
		return c.wild(a)
	}
	hook := c.small(len(a.posts))
	switch k := c(100); {
	case k < 26:
		return c.load(a)
	case k < 34:
		return turn{what: attach, at: hook, prog: c.program(a)}
	case k < 44:
		return turn{what: swap, at: hook, prog: c.program(a)}
	case k < 49:
		return turn{what: detach, list: c.some(len(a.posts))}
	case k < 50:
		return turn{what: fresh}
	case k < 68:
		return turn{what: retire, at: c.program(a)}
	case k < 75:
		return turn{what: settle, at: c.of(append(ends(), 1, 1, 2, 2, 3, 4)...)}
	case k < 87:
		return turn{what: enter, at: c.small(a.workers)}
	case k < 98:
		return turn{what: leave, list: c.some(a.workers)}
	}
	return turn{what: advance}
}

// wild is a call past the registry. What programs that are live or retiring hold, or such that are yet to come, isn't touched by it: TestLoadWhatIsHeld and TestSettleWhatWasDropped are about that.
func (c source) wild(a *account) turn {
	strangers := []int{-1, -2, 0, math.MinInt, 1<<32 + 1, math.MaxInt}
	for at, p := range a.progs {
		if p.gone {
			strangers = append(strangers, at+1)
		}
	}
	switch c(4) {
	case 0:
		return turn{what: tableAttach, at: c.small(len(a.posts)), prog: c.program(a)}
	case 1:
		return turn{what: tableSwap, at: c.small(len(a.posts)), prog: c.program(a)}
	case 2:
		return turn{what: holdMaps, at: c.of(append(strangers, a.those(c(2) == 0)...)...), list: c.some(a.maps)}
	}
	return turn{what: drop, list: []int{c.of(strangers...), c.of(strangers...)}[:1+c(2)]}
}

// script is a list of turns, chosen by what the account says on the way.
func (c source) script(s shape, many int, wild bool) []turn {
	a, out := opened(s), make([]turn, many)
	for at := range out {
		out[at] = c.turn(a, wild)
		do(a, out[at].handed())
	}
	return out
}

// shape is any.
func (c source) shape() shape {
	return shape{1 + c(4), c(5), 1 + c(4)}
}

// TestTold: P24.2 to P24.8; random scripts of all calls on registries of all shapes; P24.7 is looked at by itself, where no call goes past the registry to the refs.
func TestTold(t *testing.T) {
	c, seen := drawn(24), met{}
	for hooks := 1; hooks <= 4; hooks++ {
		for maps := range 5 {
			for workers := 1; workers <= 4; workers++ {
				for round := range 6 {
					s := shape{hooks, maps, workers}
					agree(t, s, c.script(s, 120, round%2 == 0), &seen)
				}
			}
		}
	}
	enough(t, seen)
}

// enough fails if of some call and some error too few were met.
func enough(t *testing.T, seen met) {
	t.Helper()
	if seen.gone < 2000 || seen.kept < 2000 || seen.full < 1000 {
		t.Errorf("too little was met: %d gone, %d kept, %d full", seen.gone, seen.kept, seen.full)
	}
	for w, es := range map[what][]api.Errno{
		load:        {api.OK, api.ErrShort, api.ErrForm, api.ErrTrail, api.ErrType, api.ErrEnd, api.ErrBound, api.ErrNone, api.ErrFull},
		attach:      {api.OK, api.ErrArg, api.ErrNone, api.ErrBusy},
		swap:        {api.OK, api.ErrArg, api.ErrNone},
		detach:      {api.OK, api.ErrArg, api.ErrNone},
		retire:      {api.OK, api.ErrNone, api.ErrBusy},
		enter:       {api.OK, api.ErrArg, api.ErrBusy},
		leave:       {api.OK, api.ErrArg, api.ErrNone},
		tableAttach: {api.OK, api.ErrArg, api.ErrBusy},
		tableSwap:   {api.OK, api.ErrArg, api.ErrNone},
		holdMaps:    {api.OK, api.ErrArg, api.ErrBusy},
		drop:        {api.OK, api.ErrArg, api.ErrNone},
	} {
		for _, e := range es {
			if n := seen.of[w][e]; n < 5 {
				t.Errorf("call %d was answered %v %d times", w, e, n)
			}
		}
	}
}

// TestToldLong: P24.2 to P24.8; a few scripts of thousands of turns, over which hundreds of programs come and go.
func TestToldLong(t *testing.T) {
	c, seen := drawn(2402), met{}
	for round := range 4 {
		s := shape{1 + round, 4 - round, 1 + round%2}
		agree(t, s, c.script(s, 1500, false), &seen)
	}
	if seen.gone < 300 {
		t.Errorf("only %d went", seen.gone)
	}
}

// everyScript hands on all lists of so many out of these, behind others.
func everyScript(calls []turn, left int, turns []turn, use func([]turn)) {
	if left == 0 {
		use(turns)
		return
	}
	for _, c := range calls {
		everyScript(calls, left-1, append(turns[:len(turns):len(turns)], c), use)
	}
}

// TestEveryShortScript: P24.2 to P24.7; all scripts of three out of calls of each kind on a new registry, and of four behind two programs that were loaded, of which one is at a hook and one is retiring, with a worker from ahead of that.
func TestEveryShortScript(t *testing.T) {
	one, other := turn{what: load, bytes: laid(t, good(1, 0))}, turn{what: load, bytes: laid(t, good(2))}
	calls := []turn{
		one, other,
		{what: load, bytes: laid(t, good(3, 1))},
		{what: attach, prog: 1}, {what: attach, prog: 2}, {what: swap, prog: 1}, {what: swap, prog: 2},
		{what: detach, list: []int{0}},
		{what: retire, at: 1}, {what: retire, at: 2}, {what: retire, at: 3},
		{what: settle, at: 1}, {what: settle, at: 9},
		{what: enter}, {what: leave, list: []int{0}},
		{what: advance},
	}
	var seen met
	use := func(turns []turn) { agree(t, shape{1, 1, 1}, turns, &seen) }
	everyScript(calls, 3, nil, use)
	everyScript(calls[3:], 4, []turn{one, other, {what: attach, prog: 1}, {what: enter}, {what: retire, at: 2}}, use)
	if seen.gone == 0 || seen.kept == 0 {
		t.Errorf("too little was met: %+v", seen)
	}
}

// TestTurns: P24.8; two registries in turns, in any turns, answer as each alone, on unlike scripts and on one.
func TestTurns(t *testing.T) {
	c := drawn(248)
	for round := range 100 {
		var shapes [2]shape
		var scripts [2][]turn
		var alone, turns [2][]answer
		for i := range 2 {
			shapes[i] = c.shape()
			scripts[i] = c.script(shapes[i], 80, round%2 == 0)
			if round%3 == 0 {
				shapes[i], scripts[i] = shapes[0], scripts[0]
			}
			alone[i] = played(t, shapes[i], scripts[i])
		}
		var rs [2]real
		for i, s := range shapes {
			rs[i] = real{made(t, s.hooks, s.maps, s.workers)}
		}
		for len(turns[0])+len(turns[1]) < 160 {
			i := c(2)
			if at := len(turns[i]); at < 80 {
				turns[i] = append(turns[i], play(rs[i], scripts[i][at], 40))
			}
		}
		for i := range 2 {
			if !slices.EqualFunc(alone[i], turns[i], same) {
				t.Fatalf("P24.8: %v, registry %d in turns: %+v, want %+v", shapes[i], i, turns[i], alone[i])
			}
		}
	}
}

// played are the answers to a script on a new registry.
func played(t *testing.T, s shape, turns []turn) []answer {
	t.Helper()
	r := real{made(t, s.hooks, s.maps, s.workers)}
	var out []answer
	for _, one := range turns {
		out = append(out, play(r, one, 40))
	}
	return out
}

// TestAnswersHangOnCallsAlone: rules 3, 5 and 7; one script on two registries, on one of them with calls between that are refused or only ask, and with its answers spoilt: the same answers.
func TestAnswersHangOnCallsAlone(t *testing.T) {
	c := drawn(2403)
	for range 100 {
		s := c.shape()
		a, b := made(t, s.hooks, s.maps, s.workers), made(t, s.hooks, s.maps, s.workers)
		for _, one := range c.script(s, 100, false) {
			for range c(4) {
				idle(t, c, b, s)
			}
			got, want := play(real{b}, one, 40), play(real{a}, one, 40)
			if !same(got, want) {
				t.Fatalf("%v, %+v: %+v, want %+v", s, one, got, want)
			}
			spoil(got.gone)
		}
	}
}

// idle makes a call that changes nothing, and writes over what it answers.
func idle(t *testing.T, c source, r *registry.Registry, s shape) {
	t.Helper()
	prog := c.of(append(r.Live(), 0)...)
	switch c(9) {
	case 0:
		attaches(t, r, s.hooks, prog, 0, api.ErrArg)
	case 1:
		swaps(t, r, c(s.hooks), math.MaxInt, 0, api.ErrNone)
	case 2:
		retires(t, r, -prog-1, 0, api.ErrNone)
	case 3:
		if hooks := r.Where(prog); len(hooks) > 0 {
			retires(t, r, prog, 0, api.ErrBusy)
			attaches(t, r, hooks[0], prog, 0, api.ErrBusy)
		}
	case 4:
		if waiting := r.Retiring(); len(waiting) > 0 {
			retires(t, r, c.of(waiting...), 0, api.ErrBusy)
			attaches(t, r, c(s.hooks), c.of(waiting...), 0, api.ErrNone)
		}
	case 5:
		settles(t, r, -c(3))
	case 6:
		loads(t, r, []byte{0x54, 0x50, 1, 0, 1, 22, 0, 0, 0, 0}, 0, api.ErrType)
	case 7:
		loads(t, r, []byte{0x54, 0x50}, 0, api.ErrShort)
	case 8:
		spoil(r.Live())
		spoil(r.Retiring())
		m, _ := r.Module(prog)
		spoilModule(m)
	}
}

// TestSameAgain: rule 7; one script on two registries, one behind the other: the same answers.
func TestSameAgain(t *testing.T) {
	c := drawn(7)
	for round := range 40 {
		s := c.shape()
		turns := c.script(s, 120, round%2 == 0)
		first, again := played(t, s, turns), played(t, s, turns)
		if !slices.EqualFunc(first, again, same) {
			t.Fatalf("%+v, and again %+v", first, again)
		}
	}
}

// FuzzTold: bytes read as the choices of a script, held against the account.
func FuzzTold(f *testing.F) {
	f.Add([]byte{1, 2, 3, 4, 5, 6, 7, 8})
	f.Add([]byte("programs are loaded, attached, swapped and retired, and go when no worker is left"))
	f.Add([]byte{0, 1, 0, 9, 1, 0, 9, 9, 9, 9, 9, 9, 9, 0, 30, 0, 1, 1, 80, 0, 1, 50, 1, 1, 70, 1})
	f.Fuzz(func(t *testing.T, b []byte) {
		more := drawn(int64(len(b)))
		c := source(func(below int) int {
			if len(b) == 0 {
				return more(below)
			}
			n := int(b[0]) % below
			b = b[1:]
			return n
		})
		var seen met
		s := c.shape()
		agree(t, s, c.script(s, 120, c(2) == 0), &seen)
	})
}
