package ring_test

import (
	"encoding/binary"
	"math/rand"
	"slices"
	"testing"

	"tappet/api"
	"tappet/ring"
)

// line is what the chapter tells of a ring, in plain lists: all that ever came is kept, and what became of each.
type line struct {
	room                              int
	last                              *int
	accepted, taken, dropped, waiting []api.Queued
	refused                           []api.Event
	shut                              bool
}

func (l *line) accept(e api.Event) (int, api.Errno) {
	switch {
	case l.shut:
		return 0, 43
	case len(l.waiting) == l.room:
		l.refused = append(l.refused, e)
		return 0, 40
	}
	*l.last++
	q := api.Queued{N: *l.last, Event: e}
	l.accepted = append(l.accepted, q)
	l.waiting = append(l.waiting, q)
	return q.N, 0
}

func (l *line) take() (api.Queued, bool) {
	if len(l.waiting) == 0 {
		return api.Queued{}, false
	}
	q := l.waiting[0]
	l.taken = append(l.taken, q)
	l.waiting = slices.Clone(l.waiting[1:])
	return q, true
}

func (l *line) close() []api.Queued {
	gone := l.waiting
	l.dropped = append(l.dropped, gone...)
	l.waiting, l.shut = nil, true
	return gone
}

func (l *line) counts() api.RingCounts {
	return api.RingCounts{Accepted: len(l.accepted), Refused: len(l.refused), Taken: len(l.taken), Dropped: len(l.dropped), Queued: len(l.waiting)}
}

// what is which call a step makes.
type what int

const (
	accept what = iota
	offer
	take
	shut
	next
	whats
)

// step is a call on one of the rings.
type step struct {
	what what
	ring int
	es   []api.Event
}

// answer is what a step was answered, and what can be read of its ring behind it.
type answer struct {
	n       int
	e       api.Errno
	q       api.Queued
	ok      bool
	ns      []int
	gone    []api.Queued
	counts  api.RingCounts
	waiting []api.Queued
}

// same tells whether two answers are equal, where nil and empty are one.
func same(a, b answer) bool {
	return a.n == b.n && a.e == b.e && a.q == b.q && a.ok == b.ok && slices.Equal(a.ns, b.ns) &&
		slices.Equal(a.gone, b.gone) && a.counts == b.counts && slices.Equal(a.waiting, b.waiting)
}

// play does a step on a ring of these Numbers.
func play(r *ring.Ring, n *ring.Numbers, s step) answer {
	var a answer
	switch s.what {
	case accept:
		a.n, a.e = r.Accept(s.es[0])
	case offer:
		a.ns = r.Offer(s.es...)
	case take:
		a.q, a.ok = r.Take()
	case shut:
		a.gone = r.Shut()
	case next:
		a.n = n.Next()
	}
	a.counts, a.waiting = r.Counts(), r.Waiting()
	return a
}

// tell is what play must answer.
func tell(l *line, s step) answer {
	var a answer
	switch s.what {
	case accept:
		a.n, a.e = l.accept(s.es[0])
	case offer:
		for _, e := range s.es {
			n, _ := l.accept(e)
			a.ns = append(a.ns, n)
		}
	case take:
		a.q, a.ok = l.take()
	case shut:
		a.gone = l.close()
	case next:
		*l.last++
		a.n = *l.last
	}
	a.counts, a.waiting = l.counts(), slices.Clone(l.waiting)
	return a
}

// lawful fails where P16.5's sum or its bound is broken.
func lawful(t *testing.T, c api.RingCounts, waiting []api.Queued, room int) {
	t.Helper()
	if c.Accepted != c.Taken+c.Dropped+c.Queued || c.Queued != len(waiting) || c.Queued > room {
		t.Fatalf("room %d: %+v, %v", room, c, waiting)
	}
}

// anyEvent is an event out of a few, so that equal ones come, at the ends, or any.
func anyEvent(r *rand.Rand) api.Event {
	switch r.Intn(6) {
	case 0:
		return api.Event{A: most * uint64(r.Intn(2)), B: most * uint64(r.Intn(2))}
	case 1:
		return api.Event{A: r.Uint64(), B: r.Uint64()}
	}
	return api.Event{A: uint64(r.Intn(4)), B: uint64(r.Intn(4))}
}

// script is a random list of steps on so many rings; in every hundred there is about one Shut, and takes come as often as tilt says.
func script(r *rand.Rand, many, rings, tilt int) []step {
	out := make([]step, many)
	for at := range out {
		s := step{ring: r.Intn(rings)}
		switch k := r.Intn(100); {
		case k < 1:
			s.what = shut
		case k < 4:
			s.what = next
		case k < 12:
			s.what = offer
			for range r.Intn(20) {
				s.es = append(s.es, anyEvent(r))
			}
		case k < tilt:
			s.what = take
		default:
			s.what, s.es = accept, []api.Event{anyEvent(r)}
		}
		out[at] = s
	}
	return out
}

// sharing are rings of one Numbers, that Numbers, and the lines that tell of them.
func sharing(t *testing.T, rooms ...int) ([]*ring.Ring, *ring.Numbers, []*line) {
	t.Helper()
	n, last := &ring.Numbers{}, 0
	var rs []*ring.Ring
	var ls []*line
	for _, room := range rooms {
		rs = append(rs, madeWith(t, room, n))
		ls = append(ls, &line{room: room, last: &last})
	}
	return rs, n, ls
}

// agree plays a script on rings that share their Numbers, held call by call against lines; behind each step each other ring is as it was.
func agree(t *testing.T, steps []step, rooms ...int) {
	t.Helper()
	rs, n, ls := sharing(t, rooms...)
	for at, s := range steps {
		got, w := play(rs[s.ring], n, s), tell(ls[s.ring], s)
		if !same(got, w) {
			t.Fatalf("rooms %v, step %d, %v: %v, want %v", rooms, at, s, got, w)
		}
		for i, r := range rs {
			c, waiting := r.Counts(), r.Waiting()
			if c != ls[i].counts() || !slices.Equal(waiting, ls[i].waiting) {
				t.Fatalf("rooms %v, step %d, %v: ring %d: %+v, %v, want %+v, %v", rooms, at, s, i, c, waiting, ls[i].counts(), ls[i].waiting)
			}
			lawful(t, c, waiting, rooms[i])
		}
	}
}

// TestTold: P16.1 to P16.5; random scripts on one ring, for each room, with few takes and with many.
func TestTold(t *testing.T) {
	r := rand.New(rand.NewSource(16))
	for range 20 {
		for room := 1; room <= 16; room++ {
			for _, tilt := range []int{20, 45, 56, 65, 90} {
				agree(t, script(r, 150, 1, tilt), room)
			}
		}
	}
}

// TestToldTogether: P16.1 to P16.5; likewise on two and more rings that share their Numbers.
func TestToldTogether(t *testing.T) {
	r := rand.New(rand.NewSource(1602))
	for range 400 {
		var rooms []int
		for range 2 + r.Intn(3) {
			rooms = append(rooms, 1+r.Intn(16))
		}
		agree(t, script(r, 300, len(rooms), 30+r.Intn(60)), rooms...)
	}
}

// TestToldLong: P16.2, P16.3, P16.5; scripts without a Shut, in which far more than room events pass through.
func TestToldLong(t *testing.T) {
	r := rand.New(rand.NewSource(1603))
	for room := 1; room <= 16; room++ {
		steps := slices.DeleteFunc(script(r, 10000, 2, 56), func(s step) bool { return s.what == shut })
		agree(t, steps, room, 17-room)
	}
}

// TestEveryShortScript: P16.1 to P16.5; all scripts of up to 7 calls, for small rooms.
func TestEveryShortScript(t *testing.T) {
	calls := []step{
		{what: accept, es: []api.Event{{A: 1}}},
		{what: offer, es: []api.Event{{A: 2}, {}}},
		{what: take},
		{what: shut},
		{what: next},
	}
	var steps []step
	var deeper func(left int)
	deeper = func(left int) {
		if left == 0 {
			for room := 1; room <= 3; room++ {
				agree(t, steps, room)
			}
			return
		}
		for _, s := range calls {
			if s.es = slices.Clone(s.es); len(s.es) > 0 {
				s.es[0].B = uint64(left)
			}
			steps = append(steps, s)
			deeper(left - 1)
			steps = steps[:len(steps)-1]
		}
	}
	deeper(7)
}

// TestTurns: P16.6; two rings of unlike Numbers in turns, in any turns, answer as each alone.
func TestTurns(t *testing.T) {
	r := rand.New(rand.NewSource(166))
	for range 300 {
		rooms := [2]int{1 + r.Intn(16), 1 + r.Intn(16)}
		if r.Intn(2) == 0 {
			rooms[1] = rooms[0]
		}
		var scripts [2][]step
		var alone, turns [2][]answer
		var rs [2]*ring.Ring
		var ns [2]*ring.Numbers
		for i := range 2 {
			scripts[i] = script(r, 80, 1, 56)
			n := &ring.Numbers{}
			one := madeWith(t, rooms[i], n)
			for _, s := range scripts[i] {
				alone[i] = append(alone[i], play(one, n, s))
			}
			ns[i] = &ring.Numbers{}
			rs[i] = madeWith(t, rooms[i], ns[i])
		}
		for len(turns[0])+len(turns[1]) < 160 {
			i := r.Intn(2)
			if at := len(turns[i]); at < 80 {
				turns[i] = append(turns[i], play(rs[i], ns[i], scripts[i][at]))
			}
		}
		for i := range 2 {
			if !slices.EqualFunc(alone[i], turns[i], same) {
				t.Fatalf("rooms %v, ring %d in turns: %v, want %v", rooms, i, turns[i], alone[i])
			}
		}
	}
}

// TestAnswersHangOnCallsAlone: rule 7; one script on two rings, with calls between that change nothing on the one, and its answers spoilt: the same answers.
func TestAnswersHangOnCallsAlone(t *testing.T) {
	r := rand.New(rand.NewSource(7))
	for room := 1; room <= 16; room++ {
		n, m := &ring.Numbers{}, &ring.Numbers{}
		a, b := madeWith(t, room, n), madeWith(t, room, m)
		for _, s := range script(r, 400, 1, 56) {
			for range r.Intn(3) {
				b.Offer()
				b.Counts()
				spoil(b.Waiting(), queued(-1, ev(666)))
			}
			got, w := play(b, m, s), play(a, n, s)
			if !same(got, w) {
				t.Fatalf("room %d, %v: %v, want %v", room, s, got, w)
			}
			spoil(got.ns, -1)
			spoil(got.gone, queued(-1, ev(666)))
			spoil(got.waiting, queued(-1, ev(666)))
		}
	}
}

// FuzzTold: bytes read as rooms and steps on two rings that share their Numbers, held against lines.
func FuzzTold(f *testing.F) {
	f.Add([]byte{2, 1, 0, 1, 0, 2, 0, 3, 4, 0, 0, 4, 6, 0, 0, 5})
	f.Add([]byte{16, 1, 2, 31, 3, 30, 4, 0, 5, 0, 8, 0, 6, 1})
	f.Add([]byte{0, 17})
	f.Fuzz(func(t *testing.T, data []byte) {
		if len(data) < 2 {
			return
		}
		rooms := []int{int(data[0] % 18), int(data[1] % 18)}
		for _, room := range rooms {
			r, e := ring.New(room, &ring.Numbers{})
			if right := room >= 1 && room <= 16; right != (r != nil) || right != (e == api.OK) || !right && e != api.ErrArg {
				t.Fatalf("New(%d): %v, %v", room, r, e)
			} else if !right {
				return
			}
		}
		var steps []step
		for at := 2; at+2 <= len(data); at += 2 {
			s := step{what: what(data[at]/2) % whats, ring: int(data[at] % 2)}
			if s.what == accept {
				s.es = []api.Event{wide(data[at+1])}
			} else if s.what == offer {
				for i := range data[at+1] % 32 {
					s.es = append(s.es, wide(data[at+1]+i))
				}
			}
			steps = append(steps, s)
		}
		agree(t, steps, rooms...)
	})
}

// wide is an event out of a byte: small ones as they are, others spread over all 64 bits.
func wide(c byte) api.Event {
	if c < 64 {
		return ev(uint64(c))
	}
	return api.Event{A: binary.BigEndian.Uint64([]byte{c, 0, 0, 0, 0, 0, 0, c}), B: most - uint64(c)}
}
