package scratch_test

import (
	"math/big"
	"math/rand"
	"slices"
	"testing"

	"tappet/api"
	"tappet/scratch"
)

// act is something that was done to a scratch and went well: kind 's' is a Store, 'w' a Wipe, 'm' a Mark, 'r' a Raise.
type act struct {
	kind byte
	at   int
	n    uint64
	ns   []uint64
}

// told is a scratch told by what was done to it, not by what it holds.
type told []act

// word is what was stored there last, unless it was wiped since.
func (d told) word(at int) uint64 {
	for i := len(d) - 1; i >= 0; i-- {
		if d[i].kind == 'w' {
			return 0
		}
		if d[i].kind == 's' && d[i].at == at {
			return d[i].n
		}
	}
	return 0
}

// sum is all that ever came to a counter, without any bound.
func (d told) sum(slot int) *big.Int {
	all := new(big.Int)
	for _, a := range d {
		if a.kind == 'm' && a.at == slot {
			all.Add(all, big.NewInt(1))
		}
		if a.kind == 'r' && slot < len(a.ns) {
			all.Add(all, new(big.Int).SetUint64(a.ns[slot]))
		}
	}
	return all
}

// cut is a number modulo 2^64.
func cut(n *big.Int) uint64 {
	return new(big.Int).Mod(n, new(big.Int).Lsh(big.NewInt(1), 64)).Uint64()
}

// totals are the sums over some of them, where one that is nil counts as 0.
func totals(ds []*told) []uint64 {
	var out []uint64
	for slot := range 16 {
		all := new(big.Int)
		for _, d := range ds {
			if d != nil {
				all.Add(all, d.sum(slot))
			}
		}
		out = append(out, cut(all))
	}
	return out
}

// pair is a scratch and what is told of it.
type pair struct {
	s *scratch.Scratch
	d *told
}

// source is where the choices of a run come from.
type source func(below int) int

// number is one of those at which something could go wrong, or any.
func (c source) number() uint64 {
	edges := []uint64{0, 1, 2, most, most - 1, 1 << 63, 1<<63 - 1, 1 << 32, 15, 16}
	if k := c(len(edges) + 2); k < len(edges) {
		return edges[k]
	}
	var n uint64
	for range 8 {
		n = n<<8 | uint64(c(256))
	}
	return n
}

// at is the number of a word or a slot, mostly of one that there is.
func (c source) at() int {
	if c(8) == 0 {
		far := outside()
		return far[c(len(far))]
	}
	return c(16)
}

// boundOf is the error that the number of a word or a slot calls for.
func boundOf(at int) api.Errno {
	if at < 0 || at > 15 {
		return api.ErrBound
	}
	return api.OK
}

// do does something to one of the pairs, to the scratch and to what is told of it, and fails where the two answer otherwise.
func do(t *testing.T, c source, ps []pair) {
	p := ps[c(len(ps))]
	switch c(8) {
	case 0, 1:
		at, n := c.at(), c.number()
		if e := p.s.Store(at, n); e != boundOf(at) {
			t.Fatalf("Store(%d, %d): %v", at, n, e)
		}
		if boundOf(at) == api.OK {
			*p.d = append(*p.d, act{kind: 's', at: at, n: n})
		}
	case 2:
		p.s.Wipe()
		*p.d = append(*p.d, act{kind: 'w'})
	case 3, 4:
		at := c.at()
		var w uint64
		if boundOf(at) == api.OK {
			*p.d = append(*p.d, act{kind: 'm', at: at})
			w = cut(p.d.sum(at))
		}
		if n, e := p.s.Mark(at); n != w || e != boundOf(at) {
			t.Fatalf("Mark(%d): %d, %v, want %d", at, n, e, w)
		}
	case 5, 6:
		ns := make([]uint64, c(20))
		for i := range ns {
			ns[i] = c.number()
		}
		*p.d = append(*p.d, act{kind: 'r', ns: slices.Clone(ns)})
		p.s.Raise(ns...)
		clear(ns)
	case 7:
		ask(t, c, ps)
	}
}

// ask holds the totals of some of the pairs, nil among them, against what is told of them.
func ask(t *testing.T, c source, ps []pair) {
	var ss []*scratch.Scratch
	var ds []*told
	for range c(7) {
		if c(4) == 0 {
			ss, ds = append(ss, nil), append(ds, nil)
			continue
		}
		p := ps[c(len(ps))]
		ss, ds = append(ss, p.s), append(ds, p.d)
	}
	got := scratch.Totals(ss...)
	if w := totals(ds); !slices.Equal(got, w) {
		t.Fatalf("Totals: %v, want %v", got, w)
	}
	for i := range got {
		got[i] = 12345
	}
}

// hold fails where a scratch isn't as it is told.
func hold(t *testing.T, ps []pair) {
	for k, p := range ps {
		var w seen
		for i := range 16 {
			w.words[i], w.counts[i] = p.d.word(i), cut(p.d.sum(i))
		}
		if got := look(t, p.s); got != w {
			t.Fatalf("scratch %d: %v, want %v", k, got, w)
		}
	}
}

// pairs are some scratches, made in the two ways that there are.
func pairs(many int) []pair {
	var ps []pair
	for k := range many {
		s := scratch.New()
		if k%2 == 1 {
			s = &scratch.Scratch{}
		}
		ps = append(ps, pair{s, &told{}})
	}
	return ps
}

// TestTold: P10.1 to P10.6 in random sequences over three scratches, each held against all that was done to it.
func TestTold(t *testing.T) {
	for seed := range int64(150) {
		c := source(rand.New(rand.NewSource(seed)).Intn)
		ps := pairs(3)
		for range 60 {
			do(t, c, ps)
			hold(t, ps)
		}
	}
}

// FuzzTold takes its choices out of bytes.
func FuzzTold(f *testing.F) {
	f.Add([]byte{0, 0, 1, 3, 2, 0, 3, 1, 5, 0, 5, 3, 3, 3, 3, 0, 7, 6, 1, 0, 1, 1})
	f.Add([]byte("a scratch is both: it embeds them, and so has their methods"))
	f.Fuzz(func(t *testing.T, b []byte) {
		c := source(func(below int) int {
			if len(b) == 0 {
				return 0
			}
			n := int(b[0]) % below
			b = b[1:]
			return n
		})
		ps := pairs(2)
		for range 100 {
			if len(b) == 0 {
				break
			}
			do(t, c, ps)
		}
		hold(t, ps)
	})
}
