package owner_test

import (
	"encoding/binary"
	"math"
	"math/rand"
	"slices"
	"testing"

	"tappet/api"
	"tappet/cmap"
	"tappet/owner"
	"tappet/place"
)

const most = uint64(math.MaxUint64)

// told is what the chapter tells of an owner: all that was ever sent, how much of it was done, and the maps' shards alone.
type told struct {
	shard, shards int
	maps          []cmap.Shard
	sent          []api.Request
	done          int
	over          bool
}

// toldOf is what is told of a new one, by numbers that New takes.
func toldOf(shard, shards int, ds ...api.MapDef) *told {
	w := &told{shard: shard, shards: shards}
	for _, d := range ds {
		s, _ := cmap.Make(d)
		w.maps = append(w.maps, s)
	}
	return w
}

// wrong is P22.2's ErrArg, of one request.
func (w *told) wrong(q api.Request) bool {
	switch {
	case q.Item.Map < 0, q.Item.Map >= len(w.maps):
		return true
	case q.Walk:
		return false
	case q.Item.Op < 0, q.Item.Op > 4:
		return true
	}
	return place.Of(q.Item.Key, w.shards) != w.shard
}

func (w *told) send(qs []api.Request) api.Errno {
	if w.over {
		return 43
	}
	if slices.ContainsFunc(qs, w.wrong) {
		return 2
	}
	w.sent = append(w.sent, qs...)
	return 0
}

func (w *told) step() (api.Reply, bool) {
	if w.done == len(w.sent) {
		return api.Reply{}, false
	}
	q := w.sent[w.done]
	w.done++
	r := api.Reply{To: q.From, Tag: q.Tag, Walk: q.Walk, Item: q.Item}
	m := w.maps[q.Item.Map]
	if q.Walk {
		r.Pairs = m.Pairs()
	} else {
		r.Res = m.Do(q.Item.Op, q.Item.Key, q.Item.Val)
	}
	return r, true
}

func (w *told) end() api.Errno {
	if w.done < len(w.sent) {
		return 42
	}
	w.over = true
	return 0
}

// what is which call a turn makes.
type what int

const (
	send what = iota
	step
	end
)

// turn is a call, and what is sent by it.
type turn struct {
	what what
	qs   []api.Request
}

// answer is what a turn was answered, and what can be read of the owner behind it.
type answer struct {
	e       api.Errno
	reply   api.Reply
	ok      bool
	waiting []api.Request
	pairs   [][]api.Pair
	over    bool
}

// sameReply tells whether two replies are equal, where nil and empty are one.
func sameReply(a, b api.Reply) bool {
	return a.To == b.To && a.Tag == b.Tag && a.Walk == b.Walk && a.Item == b.Item && a.Res == b.Res && slices.Equal(a.Pairs, b.Pairs)
}

// same tells likewise of two answers.
func same(a, b answer) bool {
	return a.e == b.e && sameReply(a.reply, b.reply) && a.ok == b.ok && slices.Equal(a.waiting, b.waiting) &&
		slices.EqualFunc(a.pairs, b.pairs, slices.Equal[[]api.Pair]) && a.over == b.over
}

// play takes a turn with an owner of so many maps.
func play(t *testing.T, o *owner.Owner, maps int, s turn) answer {
	t.Helper()
	var a answer
	switch s.what {
	case send:
		a.e = o.Send(s.qs...)
	case step:
		a.reply, a.ok = o.Step()
	case end:
		a.e = o.End()
	}
	a.waiting, a.over = o.Waiting(), o.Ended()
	for m := range maps {
		ps, e := o.Pairs(m)
		if e != api.OK {
			t.Fatalf("Pairs(%d): %v", m, e)
		}
		a.pairs = append(a.pairs, ps)
	}
	return a
}

// tell is what play must answer.
func tell(w *told, s turn) answer {
	var a answer
	switch s.what {
	case send:
		a.e = w.send(s.qs)
	case step:
		a.reply, a.ok = w.step()
	case end:
		a.e = w.end()
	}
	a.waiting, a.over = slices.Clone(w.sent[w.done:]), w.over
	for _, m := range w.maps {
		a.pairs = append(a.pairs, m.Pairs())
	}
	return a
}

// shape is what an owner is made by.
type shape struct {
	shard, shards int
	ds            []api.MapDef
}

// anyShape is one that New takes, with any number of maps from none on.
func anyShape(r *rand.Rand) shape {
	s := shape{shards: 1 + r.Intn(4)}
	s.shard = r.Intn(s.shards)
	for range r.Intn(5) {
		s.ds = append(s.ds, defs()[r.Intn(len(defs()))])
	}
	return s
}

// anyInt is a number at an end, or any.
func anyInt(r *rand.Rand) int {
	return []int{0, -1, math.MinInt, math.MaxInt, r.Intn(9), int(r.Uint64())}[r.Intn(6)]
}

// anyKey is a key of a shape's shard: out of a few, so that keys come again, or any.
func anyKey(r *rand.Rand, s shape, few int) uint64 {
	for {
		key := uint64(r.Intn(few))
		switch r.Intn(12) {
		case 0:
			key = edges()[r.Intn(len(edges()))]
		case 1:
			key = r.Uint64()
		}
		if place.Of(key, s.shards) == s.shard {
			return key
		}
	}
}

// request is one that an owner of a shape takes, if the shape has a map.
func request(r *rand.Rand, s shape, few int) api.Request {
	q := api.Request{From: anyInt(r), Tag: anyInt(r), Walk: r.Intn(8) == 0}
	q.Item = api.Item{Map: r.Intn(max(1, len(s.ds))), Op: lawful()[r.Intn(5)], Key: anyKey(r, s, few), Val: uint64(r.Intn(50))}
	if q.Walk && r.Intn(2) == 0 {
		q.Item.Op, q.Item.Key, q.Item.Val = otherOps()[r.Intn(len(otherOps()))], r.Uint64(), r.Uint64()
	}
	if r.Intn(10) == 0 {
		q.Item.Val = r.Uint64()
	}
	return q
}

// spoilt is a request with one thing about it that may be refused.
func spoilt(r *rand.Rand, q api.Request) api.Request {
	switch r.Intn(3) {
	case 0:
		q.Item.Map = numbers()[r.Intn(len(numbers()))]
	case 1:
		q.Item.Op = otherOps()[r.Intn(len(otherOps()))]
	case 2:
		q.Item.Key = r.Uint64()
	}
	return q
}

// script is a random list of turns for an owner of a shape: in a hundred about tilt Steps, and few Ends.
func script(r *rand.Rand, s shape, many, tilt int) []turn {
	out := make([]turn, many)
	for at := range out {
		switch k := r.Intn(100); {
		case k < 1:
			out[at].what = end
		case k < tilt:
			out[at].what = step
		default:
			requests := 1
			if r.Intn(4) == 0 {
				requests = r.Intn(8)
			}
			for range requests {
				q := request(r, s, 40)
				if r.Intn(20) == 0 {
					q = spoilt(r, q)
				}
				out[at].qs = append(out[at].qs, q)
			}
		}
	}
	return out
}

// agree plays a script on a new owner, held call by call against what is told of it.
func agree(t *testing.T, s shape, turns []turn) {
	t.Helper()
	o, w := made(t, s.shard, s.shards, s.ds...), toldOf(s.shard, s.shards, s.ds...)
	for at, one := range turns {
		if got, want := play(t, o, len(s.ds), one), tell(w, one); !same(got, want) {
			t.Fatalf("%v, turn %d, %v: %v, want %v", s, at, one, got, want)
		}
	}
}

// TestTold: P22.2 to P22.5; random scripts on owners of every shard, with each kind and cap of map, with few Steps and with many.
func TestTold(t *testing.T) {
	r := rand.New(rand.NewSource(22))
	for _, d := range defs() {
		for shards := 1; shards <= 4; shards++ {
			for shard := range shards {
				for _, tilt := range []int{30, 55, 60, 80} {
					s := shape{shard, shards, []api.MapDef{d}}
					agree(t, s, script(r, s, 120, tilt))
				}
			}
		}
	}
}

// TestToldOfSeveral: P22.2 to P22.5; likewise with none to four maps of unlike kinds and caps.
func TestToldOfSeveral(t *testing.T) {
	r := rand.New(rand.NewSource(2202))
	for range 800 {
		s := anyShape(r)
		agree(t, s, script(r, s, 150, 20+r.Intn(70)))
	}
}

// TestToldLong: P22.3, P22.5; scripts without an End, in which thousands of requests pass through.
func TestToldLong(t *testing.T) {
	r := rand.New(rand.NewSource(2203))
	for range 20 {
		s := anyShape(r)
		turns := slices.DeleteFunc(script(r, s, 6000, 60), func(one turn) bool { return one.what == end })
		agree(t, s, turns)
	}
}

// everyScript hands on all lists of so many calls out of these.
func everyScript(calls []turn, left int, turns []turn, use func([]turn)) {
	if left == 0 {
		use(turns)
		return
	}
	for _, c := range calls {
		everyScript(calls, left-1, append(turns[:len(turns):len(turns)], c), use)
	}
}

// TestEveryShortScript: P22.2 to P22.5; all scripts of 6 calls on owners of a map for one key and one for two, of each kind.
func TestEveryShortScript(t *testing.T) {
	calls := []turn{
		{what: send, qs: []api.Request{ask(0, api.MapPut, 0, 7)}},
		{what: send, qs: []api.Request{ask(0, api.MapAdd, 2, 5), ask(1, api.MapGet, 0, 0)}},
		{what: send, qs: []api.Request{walk(0), ask(0, api.MapDel, 0, 0)}},
		{what: send, qs: []api.Request{ask(0, api.MapPut, 2, 9), ask(0, api.MapPut, 1, 9)}},
		{what: send},
		{what: step},
		{what: end},
	}
	for _, kind := range []api.MapKind{api.Plain, api.Bounded} {
		s := shape{0, 2, []api.MapDef{{Kind: kind, Cap: 1}, {Kind: 1 - kind, Cap: 2}}}
		everyScript(calls, 6, nil, func(turns []turn) { agree(t, s, turns) })
	}
}

// TestOnceEachInOrder: P22.5; whatever the turns, the replies are to all that was taken, in that order, each once, and the line is what is left.
func TestOnceEachInOrder(t *testing.T) {
	r := rand.New(rand.NewSource(2205))
	for range 300 {
		s := anyShape(r)
		o := made(t, s.shard, s.shards, s.ds...)
		var sent []api.Request
		done, next := 0, 0
		for range 200 {
			if r.Intn(2) == 0 {
				var qs []api.Request
				for range r.Intn(4) {
					q := spoilt(r, request(r, s, 40))
					if r.Intn(4) > 0 {
						q = request(r, s, 40)
					}
					q.Tag = next
					next++
					qs = append(qs, q)
				}
				if o.Send(qs...) == api.OK {
					sent = append(sent, qs...)
				}
			} else if got, ok := o.Step(); ok {
				if q := sent[done]; got.To != q.From || got.Tag != q.Tag || got.Walk != q.Walk || got.Item != q.Item {
					t.Fatalf("%v: the reply %v to %v", s, got, q)
				}
				done++
			}
			if !slices.Equal(o.Waiting(), sent[done:]) {
				t.Fatalf("%v: Waiting %v, want %v", s, o.Waiting(), sent[done:])
			}
		}
	}
}

// TestHowSentIsOne: P22.2, rule 9; the same requests one by one, as a list, and in lists of any length: the same replies.
func TestHowSentIsOne(t *testing.T) {
	r := rand.New(rand.NewSource(2209))
	for range 200 {
		s := anyShape(r)
		if len(s.ds) == 0 {
			continue
		}
		var qs []api.Request
		for range 40 {
			qs = append(qs, request(r, s, 20))
		}
		whole, single, parts := made(t, s.shard, s.shards, s.ds...), made(t, s.shard, s.shards, s.ds...), made(t, s.shard, s.shards, s.ds...)
		sends(t, whole, api.OK, qs...)
		for left := qs; len(left) > 0; {
			n := r.Intn(len(left) + 1)
			sends(t, parts, api.OK, left[:n]...)
			left = left[n:]
		}
		for _, q := range qs {
			sends(t, single, api.OK, q)
			w, _ := whole.Step()
			if got, ok := single.Step(); !ok || !sameReply(got, w) {
				t.Fatalf("%v, %v: one by one %v, want %v", s, q, got, w)
			}
			if got, ok := parts.Step(); !ok || !sameReply(got, w) {
				t.Fatalf("%v, %v: in parts %v, want %v", s, q, got, w)
			}
		}
	}
}

// TestTurns: P22.5; two owners in turns, in any turns, answer as each alone, of one shape and of two.
func TestTurns(t *testing.T) {
	r := rand.New(rand.NewSource(225))
	for range 300 {
		ss := [2]shape{anyShape(r), anyShape(r)}
		if r.Intn(2) == 0 {
			ss[1] = ss[0]
		}
		var scripts [2][]turn
		var alone, turns [2][]answer
		var os [2]*owner.Owner
		for i, s := range ss {
			scripts[i] = script(r, s, 80, 55)
			o := made(t, s.shard, s.shards, s.ds...)
			for _, one := range scripts[i] {
				alone[i] = append(alone[i], play(t, o, len(s.ds), one))
			}
			os[i] = made(t, s.shard, s.shards, s.ds...)
		}
		for len(turns[0])+len(turns[1]) < 160 {
			i := r.Intn(2)
			if at := len(turns[i]); at < 80 {
				turns[i] = append(turns[i], play(t, os[i], len(ss[i].ds), scripts[i][at]))
			}
		}
		for i := range 2 {
			if !slices.EqualFunc(alone[i], turns[i], same) {
				t.Fatalf("%v, owner %d in turns: %v, want %v", ss, i, turns[i], alone[i])
			}
		}
	}
}

// TestShardsOfOneMap: P22.5; the owners of all shards together hold what layer 15's map holds, and each request is taken by one of them alone.
func TestShardsOfOneMap(t *testing.T) {
	r := rand.New(rand.NewSource(2215))
	for _, d := range defs() {
		for shards := 1; shards <= 4; shards++ {
			m, _ := cmap.New(d, shards)
			var os []*owner.Owner
			for shard := range shards {
				os = append(os, made(t, shard, shards, d))
			}
			for range 100 {
				i := api.Item{Op: lawful()[r.Intn(5)], Key: uint64(r.Intn(30)), Val: uint64(r.Intn(9))}
				w, took := m.Do(i.Op, i.Key, i.Val), 0
				for _, o := range os {
					if o.Send(api.Request{Item: i}) != api.OK {
						continue
					}
					took++
					if got, ok := o.Step(); !ok || got.Res != w {
						t.Fatalf("%v, %d shards, %v: %v, want %v", d, shards, i, got, w)
					}
				}
				if took != 1 {
					t.Fatalf("%d shards: %v is taken by %d owners", shards, i, took)
				}
			}
			var all []api.Pair
			for _, o := range os {
				ps, _ := o.Pairs(0)
				all = append(all, ps...)
			}
			if !slices.Equal(all, m.Walk()) {
				t.Fatalf("%v, %d shards: %v, want %v", d, shards, all, m.Walk())
			}
		}
	}
}

// TestAnswersHangOnCallsAlone: rule 7; one script on two owners, with calls between that change nothing on the one, and its answers spoilt: the same answers.
func TestAnswersHangOnCallsAlone(t *testing.T) {
	r := rand.New(rand.NewSource(7))
	for range 200 {
		s := anyShape(r)
		a, b := made(t, s.shard, s.shards, s.ds...), made(t, s.shard, s.shards, s.ds...)
		for _, one := range script(r, s, 120, 55) {
			for range r.Intn(3) {
				b.Send()
				b.Send(request(r, s, 40), api.Request{Item: api.Item{Map: -1}})
				b.Ended()
				spoil(b.Waiting(), badRequest())
				ps, _ := b.Pairs(r.Intn(6) - 1)
				spoil(ps, api.Pair{Key: 666, Val: 666})
			}
			got, w := play(t, b, len(s.ds), one), play(t, a, len(s.ds), one)
			if !same(got, w) {
				t.Fatalf("%v, %v: %v, want %v", s, one, got, w)
			}
			spoilAnswer(got)
		}
	}
}

// spoilAnswer writes over all lists of an answer.
func spoilAnswer(a answer) {
	spoil(a.reply.Pairs, api.Pair{Key: 666, Val: 666})
	spoil(a.waiting, badRequest())
	for _, ps := range a.pairs {
		spoil(ps, api.Pair{Key: 666, Val: 666})
	}
}

// FuzzTold: bytes read as a shape and turns, held against what is told of it.
func FuzzTold(f *testing.F) {
	f.Add([]byte{0, 2, 1, 0, 1, 1, 3, 0, 7, 5, 1, 40, 0, 0, 6, 0, 64, 0, 0, 0, 0, 64, 0, 0, 0, 0, 128, 0, 0, 0, 0, 32, 0, 0, 0})
	f.Add([]byte{0, 1, 2, 1, 1, 0, 2, 1, 3, 5, 6, 0, 1, 11, 6, 7, 0, 2, 13, 6, 7, 0, 0, 64, 0, 0, 0, 0, 64, 0, 0, 0, 0, 128, 0, 0, 0})
	f.Add([]byte{3, 4, 4, 0, 16, 1, 16, 0, 1, 1, 1, 4, 5, 255, 255, 3, 3, 39, 200, 5, 9, 4, 3, 5, 9, 0, 2, 64, 0, 0, 0})
	f.Add([]byte{1, 1, 0})
	f.Add([]byte{0, 4, 5, 0, 1, 0, 1, 0, 1, 0, 1, 0, 1})
	f.Add([]byte{0, 1, 1, 2, 17})
	f.Fuzz(func(t *testing.T, data []byte) {
		if len(data) < 3 {
			return
		}
		s := shape{shard: int(int8(data[0])), shards: int(int8(data[1]))}
		at := 3
		for range data[2] % 6 {
			if at+2 <= len(data) {
				s.ds = append(s.ds, api.MapDef{Kind: api.MapKind(int8(data[at])), Cap: int(int8(data[at+1]))})
				at += 2
			}
		}
		o, e := owner.New(s.shard, s.shards, s.ds...)
		if takes := right(s); takes != (o != nil) || takes != (e == api.OK) || !takes && e != api.ErrArg {
			t.Fatalf("New(%v): %v, %v", s, o, e)
		} else if takes {
			agree(t, s, turnsOf(data[at:]))
		}
	})
}

// turnsOf reads turns, five bytes each; a request may say that it is sent together with the one ahead of it.
func turnsOf(data []byte) []turn {
	var turns []turn
	for ; len(data) >= 5; data = data[5:] {
		flags := data[1]
		q := api.Request{From: int(int8(data[4])), Tag: -len(data), Walk: flags&32 != 0}
		q.Item = api.Item{Map: int(data[0]%7) - 1, Op: api.MapOp(flags%8) - 1, Key: wide(data[2]), Val: wide(data[3])}
		switch last := len(turns) - 1; {
		case flags&64 != 0:
			turns = append(turns, turn{what: step})
		case flags&128 != 0:
			turns = append(turns, turn{what: end})
		case flags&8 != 0 && last >= 0 && turns[last].what == send:
			turns[last].qs = append(turns[last].qs, q)
		default:
			turns = append(turns, turn{what: send, qs: []api.Request{q}})
		}
	}
	return turns
}

// wide is a number out of a byte: small ones as they are, others spread over all 64 bits.
func wide(c byte) uint64 {
	if c < 64 {
		return uint64(c)
	}
	return binary.BigEndian.Uint64([]byte{c, 0, 0, 0, 0, 0, 0, c}) - 64
}
