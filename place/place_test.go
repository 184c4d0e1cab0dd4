package place_test

import (
	"fmt"
	"math"
	"math/big"
	"math/rand"
	"slices"
	"testing"

	"tappet/place"
)

const most = uint64(math.MaxUint64)

// edges are keys at which something could go wrong.
func edges() []uint64 {
	return []uint64{0, 1, 2, 3, 5, 7, 255, 256, 1<<31 - 1, 1 << 31, 1<<32 - 1, 1 << 32, 1<<32 + 1, 1<<63 - 1, 1 << 63, 1<<63 + 1, most - 1, most}
}

// numbers are numbers of shards, those that a host may have and others.
func numbers() []int {
	return []int{math.MinInt, math.MinInt + 1, math.MinInt32, -4, -1, 0, 1, 2, 3, 4, 5, 6, 7, 16, 255, 256, math.MaxInt32, math.MaxInt - 1, math.MaxInt}
}

// told is P12.1 by numbers without any bound: the chapter's words, one after another.
func told(key uint64, shards int) int {
	if shards < 1 {
		return 0
	}
	factor, _ := new(big.Int).SetString("11400714819323198485", 10)
	n := new(big.Int).Mul(new(big.Int).SetUint64(key), factor)
	n.Mod(n, new(big.Int).Lsh(big.NewInt(1), 64))
	n.Div(n, new(big.Int).Lsh(big.NewInt(1), 32))
	n.Mod(n, big.NewInt(int64(shards)))
	return int(n.Int64())
}

// toldMine are the keys that are told to be a shard's.
func toldMine(shard, shards int, keys []uint64) []uint64 {
	var out []uint64
	for _, k := range keys {
		if told(k, shards) == shard {
			out = append(out, k)
		}
	}
	return out
}

// lawful is how many lists Split answers.
func lawful(shards int) int {
	if shards < 1 || shards > 4 {
		return 0
	}
	return shards
}

// same tells whether two lists of lists are equal, where nil and empty are one.
func same(a, b [][]uint64) bool {
	return slices.EqualFunc(a, b, slices.Equal[[]uint64])
}

// copies are lists of their own with what lists have.
func copies(lists [][]uint64) [][]uint64 {
	var out [][]uint64
	for _, l := range lists {
		out = append(out, slices.Clone(l))
	}
	return out
}

// someKeys are a random list in which keys stand more than once.
func someKeys(r *rand.Rand, many int) []uint64 {
	keys := make([]uint64, many)
	for i := range keys {
		switch r.Intn(3) {
		case 0:
			keys[i] = uint64(r.Intn(8))
		case 1:
			keys[i] = edges()[r.Intn(len(edges()))]
		default:
			keys[i] = r.Uint64()
		}
	}
	return keys
}

// TestExamples: the chapter's table.
func TestExamples(t *testing.T) {
	for _, c := range []struct {
		key          uint64
		shards, want int
	}{{0, 4, 0}, {1, 4, 1}, {2, 4, 2}, {3, 4, 0}, {5, 4, 3}, {5, 3, 2}, {7, 0, 0}, {7, -1, 0}, {7, 1, 0}} {
		if got := place.Of(c.key, c.shards); got != c.want {
			t.Errorf("Of(%d, %d): %d, want %d", c.key, c.shards, got, c.want)
		}
	}
	if got := place.Split(2, 0, 1, 2, 3); !same(got, [][]uint64{{0, 2, 3}, {1}}) {
		t.Errorf("Split(2, 0, 1, 2, 3): %v", got)
	}
	if got := place.Split(0, 1); len(got) != 0 {
		t.Errorf("Split(0, 1): %v", got)
	}
	if got := place.Split(5, 1); len(got) != 0 {
		t.Errorf("Split(5, 1): %v", got)
	}
	if got := place.Mine(1, 4, 1, 2, 1); !slices.Equal(got, []uint64{1, 1}) {
		t.Errorf("Mine(1, 4, 1, 2, 1): %v", got)
	}
}

// TestOfWritten: P12.1, with answers that were reckoned elsewhere, for 1, 2, 3, 4, 5, 7, 16 and 2^31 - 1 shards.
func TestOfWritten(t *testing.T) {
	shards := [8]int{1, 2, 3, 4, 5, 7, 16, math.MaxInt32}
	for _, c := range []struct {
		key  uint64
		want [8]int
	}{
		{0, [8]int{0, 0, 0, 0, 0, 0, 0, 0}},
		{1, [8]int{0, 1, 0, 1, 4, 6, 9, 506952122}},
		{2, [8]int{0, 0, 2, 2, 2, 1, 2, 1013904242}},
		{3, [8]int{0, 0, 0, 0, 2, 1, 12, 1520856365}},
		{4, [8]int{0, 1, 2, 1, 0, 3, 5, 2027808485}},
		{5, [8]int{0, 1, 2, 3, 4, 6, 15, 387276959}},
		{6, [8]int{0, 0, 2, 0, 3, 5, 8, 894229081}},
		{7, [8]int{0, 0, 2, 2, 2, 1, 2, 1401181202}},
		{8, [8]int{0, 1, 2, 3, 1, 0, 11, 1908133324}},
		{9, [8]int{0, 1, 2, 1, 0, 3, 5, 267601798}},
		{10, [8]int{0, 0, 1, 2, 3, 5, 14, 774553918}},
		{255, [8]int{0, 1, 2, 1, 4, 6, 5, 423772102}},
		{256, [8]int{0, 1, 2, 3, 3, 2, 15, 930724223}},
		{1000, [8]int{0, 1, 2, 1, 4, 0, 9, 145980569}},
		{1 << 31, [8]int{0, 0, 2, 2, 3, 2, 10, 1067793931}},
		{1<<32 - 1, [8]int{0, 1, 1, 3, 2, 5, 11, 1628635740}},
		{1 << 32, [8]int{0, 1, 1, 1, 1, 1, 5, 2135587861}},
		{1<<32 + 1, [8]int{0, 0, 0, 2, 4, 3, 14, 495056334}},
		{1<<63 - 1, [8]int{0, 0, 2, 2, 4, 6, 6, 1640531527}},
		{1 << 63, [8]int{0, 0, 2, 0, 3, 2, 0, 1}},
		{1<<63 + 1, [8]int{0, 1, 1, 1, 1, 4, 9, 506952121}},
		{most - 1, [8]int{0, 1, 1, 1, 3, 2, 13, 1133579406}},
		{most, [8]int{0, 0, 0, 2, 1, 4, 6, 1640531526}},
	} {
		for i, n := range shards {
			if got := place.Of(c.key, n); got != c.want[i] {
				t.Errorf("Of(%d, %d): %d, want %d", c.key, n, got, c.want[i])
			}
		}
	}
}

// TestOfFew: P12.1; with one shard, with none and with less than none each key is in shard 0.
func TestOfFew(t *testing.T) {
	for _, n := range []int{1, 0, -1, -2, -4, math.MinInt32, math.MinInt + 1, math.MinInt} {
		for _, k := range edges() {
			if got := place.Of(k, n); got != 0 {
				t.Errorf("Of(%d, %d): %d", k, n, got)
			}
		}
	}
}

// TestOfMany: P12.1; the greatest number of shards is above every half of 64 bits, so nothing is taken away there.
func TestOfMany(t *testing.T) {
	if math.MaxInt == math.MaxInt32 {
		t.Skip("an int doesn't hold the answers")
	}
	for _, c := range []struct{ key, want uint64 }{{0, 0}, {1, 2654435769}, {3, 3668340012}, {5, 387276959}, {8, 4055616971}, {1 << 63, 2147483648}, {most - 1, 3281063053}, {most, 1640531526}} {
		if got := place.Of(c.key, math.MaxInt); got < 0 || uint64(got) != c.want {
			t.Errorf("Of(%d, the greatest): %d, want %d", c.key, got, c.want)
		}
	}
}

// TestOfTold: P12.1 at edges and at random, against numbers without any bound.
func TestOfTold(t *testing.T) {
	r := rand.New(rand.NewSource(12))
	keys := append(edges(), someKeys(r, 2000)...)
	for i := range uint64(64) {
		keys = append(keys, 1<<i, 1<<i-1, most<<i)
	}
	for _, k := range keys {
		for _, n := range append(numbers(), r.Int(), -r.Int(), 1+r.Intn(1000)) {
			if got, w := place.Of(k, n), told(k, n); got != w {
				t.Fatalf("Of(%d, %d): %d, want %d", k, n, got, w)
			}
		}
	}
}

// TestSplitEdges: P12.2; no key, one, some that stand there often, a shard that gets none, and each number of shards at which the answer changes.
func TestSplitEdges(t *testing.T) {
	for _, c := range []struct {
		shards int
		keys   []uint64
		want   [][]uint64
	}{
		{1, nil, [][]uint64{{}}},
		{2, []uint64{}, [][]uint64{{}, {}}},
		{4, nil, [][]uint64{{}, {}, {}, {}}},
		{1, []uint64{most}, [][]uint64{{most}}},
		{4, []uint64{0}, [][]uint64{{0}, {}, {}, {}}},
		{4, []uint64{1}, [][]uint64{{}, {1}, {}, {}}},
		{4, []uint64{5}, [][]uint64{{}, {}, {}, {5}}},
		{4, []uint64{most}, [][]uint64{{}, {}, {most}, {}}},
		{1, []uint64{3, 1, 3, 2, 3}, [][]uint64{{3, 1, 3, 2, 3}}},
		{2, []uint64{1, 1, 2, 1, 2}, [][]uint64{{2, 2}, {1, 1, 1}}},
		{3, []uint64{5, 1, 7, 5, 10, 1}, [][]uint64{{1, 1}, {10}, {5, 7, 5}}},
		{4, []uint64{5, 3, 2, 1, 0, 5, 7, 3, 0, 8}, [][]uint64{{3, 0, 3, 0}, {1}, {2, 7}, {5, 5, 8}}},
		{4, []uint64{3, 0, 3, 3, 0}, [][]uint64{{3, 0, 3, 3, 0}, {}, {}, {}}},
	} {
		if got := place.Split(c.shards, c.keys...); !same(got, c.want) {
			t.Errorf("Split(%d, %v): %v, want %v", c.shards, c.keys, got, c.want)
		}
	}
	for _, n := range numbers() {
		for _, keys := range [][]uint64{nil, {1}, {0, 1, 2, 3, 5, 1}} {
			if got := place.Split(n, keys...); len(got) != lawful(n) {
				t.Errorf("Split(%d, %v): %d lists, want %d", n, keys, len(got), lawful(n))
			}
		}
	}
}

// TestMineEdges: P12.2; a shard below 0, one that isn't below shards, shards below 1 and above those that a host may have, no key.
func TestMineEdges(t *testing.T) {
	all := []uint64{5, 3, 2, 1, 0, 5, 7, 3, most}
	for _, c := range []struct {
		shard, shards int
		keys, want    []uint64
	}{
		{0, 4, nil, nil},
		{0, 0, nil, nil},
		{0, -1, []uint64{}, nil},
		{0, 4, all, []uint64{3, 0, 3}},
		{1, 4, all, []uint64{1}},
		{2, 4, all, []uint64{2, 7, most}},
		{3, 4, all, []uint64{5, 5}},
		{4, 4, all, nil},
		{5, 4, all, nil},
		{math.MaxInt, 4, all, nil},
		{-1, 4, all, nil},
		{-3, 4, all, nil},
		{math.MinInt, 4, all, nil},
		{0, 1, all, all},
		{1, 1, all, nil},
		{-1, 1, all, nil},
		{0, 0, all, all},
		{1, 0, all, nil},
		{-1, 0, all, nil},
		{0, -1, all, all},
		{-1, -1, all, nil},
		{-2, -1, all, nil},
		{0, math.MinInt, all, all},
		{math.MinInt, math.MinInt, all, nil},
		{4, 5, all, []uint64{5, 1, 5}},
		{2, 5, all, []uint64{3, 2, 7, 3}},
		{15, 16, all, []uint64{5, 5}},
		{506952122, math.MaxInt32, all, []uint64{1}},
		{0, math.MaxInt, all, []uint64{0}},
		{math.MaxInt, math.MaxInt, all, nil},
		{387276959, math.MaxInt, all, []uint64{5, 5}},
		{1, 4, []uint64{1}, []uint64{1}},
		{1, 4, []uint64{2}, nil},
		{1, 4, []uint64{1, 1, 1}, []uint64{1, 1, 1}},
	} {
		if got := place.Mine(c.shard, c.shards, c.keys...); !slices.Equal(got, c.want) {
			t.Errorf("Mine(%d, %d, %v): %v, want %v", c.shard, c.shards, c.keys, got, c.want)
		}
	}
}

// hold fails where Split and Mine answer otherwise than what is told, or where a key isn't in just one list, as often as it was handed in.
func hold(t *testing.T, keys []uint64) {
	t.Helper()
	for n := range 7 {
		lists := place.Split(n, keys...)
		if len(lists) != lawful(n) {
			t.Fatalf("Split(%d, %v): %d lists, want %d", n, keys, len(lists), lawful(n))
		}
		for shard := -1; shard <= n+1; shard++ {
			mine := place.Mine(shard, n, keys...)
			if want := toldMine(shard, n, keys); !slices.Equal(mine, want) {
				t.Fatalf("Mine(%d, %d, %v): %v, want %v", shard, n, keys, mine, want)
			}
			if shard >= 0 && shard < len(lists) && !slices.Equal(mine, lists[shard]) {
				t.Fatalf("Split(%d, %v): %v for shard %d, but Mine has %v", n, keys, lists[shard], shard, mine)
			}
		}
		if len(lists) > 0 {
			holdOnce(t, keys, lists)
		}
	}
}

// holdOnce fails where a key is in no list or in two, or not as often as it was handed in.
func holdOnce(t *testing.T, keys []uint64, lists [][]uint64) {
	t.Helper()
	home, often := map[uint64]int{}, map[uint64]int{}
	for shard, l := range lists {
		for _, k := range l {
			if at, ok := home[k]; ok && at != shard {
				t.Fatalf("%v: key %d is in shard %d and in shard %d", keys, k, at, shard)
			}
			home[k] = shard
			often[k]++
		}
	}
	for _, k := range keys {
		often[k]--
	}
	for k, n := range often {
		if n != 0 {
			t.Fatalf("%v: key %d stands in the lists %d times too often", keys, k, n)
		}
	}
}

// TestTold: P12.2, P12.3 over random lists of keys.
func TestTold(t *testing.T) {
	r := rand.New(rand.NewSource(3))
	hold(t, nil)
	hold(t, edges())
	for range 400 {
		hold(t, someKeys(r, r.Intn(40)))
	}
	hold(t, someKeys(r, 5000))
}

// TestEachKeyHasAHome: P12.3; for any shards of at least 1 the shard of a key is one of them.
func TestEachKeyHasAHome(t *testing.T) {
	for _, n := range numbers() {
		for _, k := range edges() {
			if at := place.Of(k, n); at < 0 || at >= max(n, 1) {
				t.Errorf("Of(%d, %d): %d", k, n, at)
			}
			if got := place.Mine(place.Of(k, n), n, k); !slices.Equal(got, []uint64{k}) {
				t.Errorf("Mine of its own shard, %d shards, key %d: %v", n, k, got)
			}
		}
	}
}

// roomy is a list of the keys with spare room behind it, and the whole room.
func roomy(keys []uint64) (list, whole []uint64) {
	whole = append(slices.Clone(keys), 71, 72, 73, 74, 75)
	return whole[:len(keys)], whole
}

// scribble writes over a list up to the end of its room, then over what an append makes of it.
func scribble(l []uint64) {
	spare := l[:cap(l)]
	for i := range spare {
		spare[i] = 999
	}
	for i := range 9 {
		l = append(l, uint64(i)+500)
	}
	clear(l)
}

// shapes are lists of keys of many lengths: all of one shard, all different, many times the same.
func shapes() [][]uint64 {
	out := [][]uint64{nil, {1}, {0, 3}, {1, 1, 1}, {0, 1, 2, 3, 5}, edges(), {5, 3, 2, 1, 0, 5, 7, 3, 0, 8, 8, 8, 1}}
	r := rand.New(rand.NewSource(8))
	for many := range 20 {
		out = append(out, someKeys(r, many))
	}
	return out
}

// TestAnswersAreNew: P12.3; each list may be written to and appended to, and neither another one nor what was handed in changes.
func TestAnswersAreNew(t *testing.T) {
	for _, keys := range shapes() {
		for n := 1; n <= 4; n++ {
			list, whole := roomy(keys)
			kept := slices.Clone(whole)
			lists, second := place.Split(n, list...), place.Split(n, list...)
			want := copies(lists)
			for shard := range lists {
				scribble(lists[shard])
				want[shard] = slices.Clone(lists[shard])
				if !same(lists, want) {
					t.Fatalf("Split(%d, %v): writing to list %d changed another one: %v, want %v", n, keys, shard, lists, want)
				}
			}
			lists = append(lists, []uint64{1})
			clear(lists[:cap(lists)])
			hands(t, fmt.Sprintf("Split(%d, %v)", n, keys), whole, kept)
			if !same(second, place.Split(n, keys...)) {
				t.Fatalf("Split(%d, %v): two answers share memory", n, keys)
			}
		}
	}
}

// TestAppended: P12.3; no two lists, of one answer or of two, have spare room in common, not even empty ones.
func TestAppended(t *testing.T) {
	for _, keys := range shapes() {
		for n := 1; n <= 4; n++ {
			lists := append(place.Split(n, keys...), place.Split(n, keys...)...)
			for shard := range n {
				lists = append(lists, place.Mine(shard, n, keys...))
			}
			want := copies(lists)
			for i := range lists {
				for range 3 {
					lists[i] = append(lists[i], uint64(i)+500)
					want[i] = append(want[i], uint64(i)+500)
				}
			}
			if !same(lists, want) {
				t.Fatalf("%d shards, %v: %v, want %v", n, keys, lists, want)
			}
		}
	}
}

// TestMineIsNew: P12.3 for Mine, where all keys are the shard's too.
func TestMineIsNew(t *testing.T) {
	for _, keys := range shapes() {
		for _, n := range []int{-1, 0, 1, 2, 4, 5, math.MaxInt} {
			for shard := range 5 {
				list, whole := roomy(keys)
				kept := slices.Clone(whole)
				first, second := place.Mine(shard, n, list...), place.Mine(shard, n, list...)
				scribble(first)
				hands(t, fmt.Sprintf("Mine(%d, %d, %v)", shard, n, keys), whole, kept)
				if want := toldMine(shard, n, keys); !slices.Equal(second, want) {
					t.Fatalf("Mine(%d, %d, %v): two answers share memory: %v, want %v", shard, n, keys, second, want)
				}
			}
		}
	}
}

// hands fails where what was handed in, its spare room included, isn't as it was.
func hands(t *testing.T, call string, whole, kept []uint64) {
	t.Helper()
	if !slices.Equal(whole, kept) {
		t.Fatalf("%s: what was handed in is %v, was %v", call, whole, kept)
	}
}

// TestKeysStay: P12.3; no call changes the keys that it is handed, those included that it refuses, and none keeps them.
func TestKeysStay(t *testing.T) {
	for _, keys := range shapes() {
		for _, n := range numbers() {
			list, whole := roomy(keys)
			kept := slices.Clone(whole)
			lists := place.Split(n, list...)
			mine := place.Mine(1, n, list...)
			hands(t, fmt.Sprintf("Split and Mine(1, ..), %d shards, %v", n, keys), whole, kept)
			for i := range whole {
				whole[i] = 999
			}
			if !same(lists, place.Split(n, keys...)) || !slices.Equal(mine, toldMine(1, n, keys)) {
				t.Fatalf("%d shards, %v: the answers went on with what was handed in", n, keys)
			}
		}
	}
}

// FuzzTold takes keys out of bytes.
func FuzzTold(f *testing.F) {
	f.Add([]byte{0, 1, 2, 3, 5, 7}, uint64(0), 4)
	f.Add([]byte("keys, each as often as it stands there"), most, -1)
	f.Fuzz(func(t *testing.T, b []byte, step uint64, shards int) {
		var keys []uint64
		for _, x := range b {
			keys = append(keys, uint64(x)+step*uint64(x%7))
		}
		hold(t, keys)
		for _, k := range keys {
			if got, w := place.Of(k, shards), told(k, shards); got != w {
				t.Fatalf("Of(%d, %d): %d, want %d", k, shards, got, w)
			}
		}
	})
}
