package order_test

import (
	"cmp"
	"iter"
	"maps"
	"math"
	"math/rand"
	"slices"
	"testing"

	"breviary/order"
)

// pair is a key and its value, as an iterator tells them.
type pair[K cmp.Ordered, V any] struct {
	k K
	v V
}

// numbers is an order of the keys, put one by one, each with ten times its key.
func numbers(keys ...int) *order.Map[int, int] {
	m := order.New[int, int]()
	for _, k := range keys {
		m.Put(k, 10*k)
	}
	return m
}

// tens are the pairs that numbers puts, in this order.
func tens(keys ...int) []pair[int, int] {
	var pairs []pair[int, int]
	for _, k := range keys {
		pairs = append(pairs, pair[int, int]{k, 10 * k})
	}
	return pairs
}

func gathered[K cmp.Ordered, V any](s iter.Seq2[K, V]) []pair[K, V] {
	var pairs []pair[K, V]
	for k, v := range s {
		pairs = append(pairs, pair[K, V]{k, v})
	}
	return pairs
}

func want(t *testing.T, what string, got, wanted any) {
	t.Helper()
	if got != wanted {
		t.Errorf("%s: %v, wanted %v", what, got, wanted)
	}
}

func wantList[T comparable](t *testing.T, what string, got, wanted []T) {
	t.Helper()
	if !slices.Equal(got, wanted) {
		t.Errorf("%s: %v, wanted %v", what, got, wanted)
	}
}

func wantGet[K cmp.Ordered, V comparable](t *testing.T, m *order.Map[K, V], k K, v V, there bool) {
	t.Helper()
	if got, ok := m.Get(k); got != v || ok != there {
		t.Errorf("Get(%v): %v %v, wanted %v %v", k, got, ok, v, there)
	}
}

func wantFloor[K cmp.Ordered, V comparable](t *testing.T, m *order.Map[K, V], of, k K, v V, there bool) {
	t.Helper()
	if gotKey, got, ok := m.Floor(of); gotKey != k || got != v || ok != there {
		t.Errorf("Floor(%v): %v %v %v, wanted %v %v %v", of, gotKey, got, ok, k, v, there)
	}
}

// wantEnds tells whether s, told to end behind each number of steps, tells just the first of wanted, and all of them when it is gone through again.
func wantEnds[K cmp.Ordered, V comparable](t *testing.T, what string, s iter.Seq2[K, V], wanted []pair[K, V]) {
	t.Helper()
	for most := 1; most <= len(wanted)+1; most++ {
		var got []pair[K, V]
		ended := false
		s(func(k K, v V) bool {
			if ended {
				t.Fatalf("%s goes on behind its end, at %v", what, k)
			}
			got = append(got, pair[K, V]{k, v})
			ended = len(got) == most
			return !ended
		})
		wantList(t, what+", the first ones", got, wanted[:min(most, len(wanted))])
		wantList(t, what+", again", gathered(s), wanted)
	}
}

// wantAll tells whether m has just these pairs, whose keys rise, by each call that tells all of them.
func wantAll[K cmp.Ordered, V comparable](t *testing.T, m *order.Map[K, V], pairs []pair[K, V]) {
	t.Helper()
	var keys []K
	for _, p := range pairs {
		keys = append(keys, p.k)
		wantGet(t, m, p.k, p.v, true)
		wantFloor(t, m, p.k, p.k, p.v, true)
	}
	want(t, "Len", m.Len(), len(pairs))
	wantList(t, "Keys", order.Keys(m), keys)
	wantList(t, "All", gathered(m.All()), pairs)
	down := slices.Clone(pairs)
	slices.Reverse(down)
	wantList(t, "Down", gathered(m.Down()), down)
	want(t, "Count of all", order.Count(m, func(V) bool { return true }), len(pairs))
}

// P4.1

func TestNew(t *testing.T) {
	m := order.New[int, string]()
	if m == nil {
		t.Fatal("New: nil")
	}
	wantAll(t, m, nil)
	for _, k := range []int{math.MinInt, -1, 0, 1, math.MaxInt} {
		wantGet(t, m, k, "", false)
		wantFloor(t, m, k, 0, "", false)
		want(t, "Delete", m.Delete(k), false)
		wantList(t, "From", gathered(m.From(k)), nil)
	}
	wantAll(t, m, nil)
}

func TestEachOrderIsApart(t *testing.T) {
	m, other := order.New[int, int](), order.New[int, int]()
	m.Put(1, 10)
	wantAll(t, m, tens(1))
	wantAll(t, other, nil)
}

func TestChapterExample(t *testing.T) {
	m := order.New[int, string]()
	want(t, "Put", m.Put(5, "five"), true)
	want(t, "Put", m.Put(2, "two"), true)
	wantList(t, "Keys", order.Keys(m), []int{2, 5})
	wantFloor(t, m, 4, 2, "two", true)
}

func TestPutAndGet(t *testing.T) {
	m := order.New[int, int]()
	for _, k := range []int{3, 1, 2, -7, 0} {
		wantGet(t, m, k, 0, false)
		want(t, "Put", m.Put(k, 10*k), true)
		wantGet(t, m, k, 10*k, true)
	}
	wantAll(t, m, tens(-7, 0, 1, 2, 3))
	for _, k := range []int{math.MinInt, -8, -6, 4, math.MaxInt} {
		wantGet(t, m, k, 0, false)
	}
}

func TestPutAgain(t *testing.T) {
	m := numbers(1, 2, 3)
	for _, k := range []int{1, 2, 3} {
		want(t, "Put again", m.Put(k, 7), false)
		wantGet(t, m, k, 7, true)
		want(t, "Len", m.Len(), 3)
		want(t, "Put again, of the same value", m.Put(k, 7), false)
		want(t, "Put again", m.Put(k, 10*k), false)
		wantAll(t, m, tens(1, 2, 3))
	}
}

func TestZeroValueIsThere(t *testing.T) {
	m := order.New[int, int]()
	want(t, "Put", m.Put(0, 0), true)
	wantGet(t, m, 0, 0, true)
	want(t, "Put", m.Put(0, 0), false)
	wantFloor(t, m, 0, 0, 0, true)
	wantFloor(t, m, -1, 0, 0, false)
	want(t, "Delete", m.Delete(0), true)
	wantGet(t, m, 0, 0, false)
}

func TestDelete(t *testing.T) {
	keys := []int{1, 3, 5, 7, 9}
	for i, gone := range keys {
		m := numbers(keys...)
		want(t, "Delete", m.Delete(gone), true)
		wantGet(t, m, gone, 0, false)
		rest := slices.Delete(slices.Clone(keys), i, i+1)
		wantAll(t, m, tens(rest...))
		want(t, "Delete again", m.Delete(gone), false)
		wantAll(t, m, tens(rest...))
		want(t, "Put", m.Put(gone, 10*gone), true)
		wantAll(t, m, tens(keys...))
	}
}

func TestDeleteOfWhatIsNotThere(t *testing.T) {
	m := numbers(1, 3, 5)
	for _, k := range []int{math.MinInt, 0, 2, 4, 6, math.MaxInt} {
		want(t, "Delete", m.Delete(k), false)
		wantAll(t, m, tens(1, 3, 5))
	}
}

func TestDeleteOfAll(t *testing.T) {
	m := numbers(4, 2, 6)
	for _, k := range []int{2, 6, 4} {
		want(t, "Delete", m.Delete(k), true)
	}
	wantAll(t, m, nil)
	wantFloor(t, m, 6, 0, 0, false)
	want(t, "Put", m.Put(4, 40), true)
	wantAll(t, m, tens(4))
}

func TestFloor(t *testing.T) {
	m := numbers(-4, 2, 5)
	for _, of := range []int{math.MinInt, -100, -5} {
		wantFloor(t, m, of, 0, 0, false)
	}
	for _, x := range []struct{ of, k int }{
		{-4, -4}, {-3, -4}, {0, -4}, {1, -4},
		{2, 2}, {3, 2}, {4, 2},
		{5, 5}, {6, 5}, {math.MaxInt, 5},
	} {
		wantFloor(t, m, x.of, x.k, 10*x.k, true)
	}
	wantAll(t, m, tens(-4, 2, 5))
}

func TestExtremeKeys(t *testing.T) {
	m := order.New[int, string]()
	want(t, "Put", m.Put(math.MaxInt, "most"), true)
	want(t, "Put", m.Put(math.MinInt, "least"), true)
	want(t, "Put", m.Put(0, "none"), true)
	wantAll(t, m, []pair[int, string]{{math.MinInt, "least"}, {0, "none"}, {math.MaxInt, "most"}})
	wantFloor(t, m, -1, math.MinInt, "least", true)
	wantFloor(t, m, math.MaxInt-1, 0, "none", true)
	u := order.New[uint64, int]()
	u.Put(math.MaxUint64, 2)
	u.Put(0, 1)
	wantAll(t, u, []pair[uint64, int]{{0, 1}, {math.MaxUint64, 2}})
	wantFloor(t, u, math.MaxUint64-1, 0, 1, true)
}

// P4.2

func TestAllInOrder(t *testing.T) {
	wantAll(t, numbers(4, 9, 1, 7, 2), tens(1, 2, 4, 7, 9))
	wantAll(t, numbers(6), tens(6))
}

func TestFrom(t *testing.T) {
	m := numbers(7, 3, 5)
	for _, x := range []struct {
		from int
		keys []int
	}{
		{math.MinInt, []int{3, 5, 7}}, {2, []int{3, 5, 7}}, {3, []int{3, 5, 7}},
		{4, []int{5, 7}}, {5, []int{5, 7}},
		{6, []int{7}}, {7, []int{7}},
		{8, nil}, {math.MaxInt, nil},
	} {
		wantList(t, "From", gathered(m.From(x.from)), tens(x.keys...))
	}
}

func TestIteratorsEnd(t *testing.T) {
	for _, keys := range [][]int{nil, {4}, {1, 2}, {1, 3, 5, 7}} {
		m := numbers(keys...)
		down := slices.Clone(keys)
		slices.Reverse(down)
		wantEnds(t, "All", m.All(), tens(keys...))
		wantEnds(t, "Down", m.Down(), tens(down...))
		for _, from := range []int{0, 1, 2, 3, 6, 7, 8} {
			at, _ := slices.BinarySearch(keys, from)
			wantEnds(t, "From", m.From(from), tens(keys[at:]...))
		}
		wantAll(t, m, tens(keys...))
	}
}

func TestIteratorsOverEachOther(t *testing.T) {
	m := numbers(1, 2, 3)
	for _, s := range []iter.Seq2[int, int]{m.All(), m.From(1), m.Down()} {
		outer := 0
		for range s {
			outer++
			want(t, "the inner ones", len(gathered(s)), 3)
		}
		want(t, "the outer ones", outer, 3)
	}
}

func TestKeysAreNewMemory(t *testing.T) {
	m := numbers(1, 2, 3)
	keys := order.Keys(m)
	for i := range keys[:cap(keys)] {
		keys[:cap(keys)][i] = 77
	}
	wantAll(t, m, tens(1, 2, 3))
	keys = order.Keys(m)
	m.Delete(2)
	m.Put(9, 90)
	wantList(t, "Keys that were told", keys, []int{1, 2, 3})
}

func TestCount(t *testing.T) {
	m := numbers(1, 2, 3, 4, 5)
	for _, x := range []struct {
		is func(int) bool
		n  int
	}{
		{func(int) bool { return true }, 5},
		{func(int) bool { return false }, 0},
		{func(v int) bool { return v > 20 }, 3},
		{func(v int) bool { return v == 50 }, 1},
		{func(v int) bool { return v == 5 }, 0}, // the values count, not the keys
		{nil, 0},
	} {
		want(t, "Count", order.Count(m, x.is), x.n)
	}
	want(t, "Count of none", order.Count(order.New[int, int](), func(int) bool { return true }), 0)
}

func TestCountAsksOfEachValueOnce(t *testing.T) {
	var asked []int
	order.Count(numbers(3, 1, 2), func(v int) bool {
		asked = append(asked, v)
		return v == 20
	})
	slices.Sort(asked)
	wantList(t, "asked", asked, []int{10, 20, 30})
}

func TestCloneThatIsChanged(t *testing.T) {
	m := numbers(1, 3, 5)
	c := m.Clone()
	wantAll(t, c, tens(1, 3, 5))
	c.Put(2, 20)
	c.Put(7, 70)
	c.Put(5, 0)
	c.Delete(1)
	wantAll(t, m, tens(1, 3, 5))
	wantAll(t, c, []pair[int, int]{{2, 20}, {3, 30}, {5, 0}, {7, 70}})
}

func TestCloneWhoseElderIsChanged(t *testing.T) {
	m := numbers(1, 3, 5)
	c := m.Clone()
	m.Put(0, 0)
	m.Put(9, 90)
	m.Put(3, 7)
	m.Delete(5)
	wantAll(t, c, tens(1, 3, 5))
	wantAll(t, m, []pair[int, int]{{0, 0}, {1, 10}, {3, 7}, {9, 90}})
}

func TestClonesWithSpareRoom(t *testing.T) {
	for n := range 20 {
		var keys []int
		for k := range n {
			keys = append(keys, k)
		}
		m := numbers(keys...)
		c, d := m.Clone(), m.Clone()
		// Each puts behind its last key: they must not write into one room.
		m.Put(n, 1)
		c.Put(n, 2)
		d.Put(n, 3)
		wantGet(t, m, n, 1, true)
		wantGet(t, c, n, 2, true)
		wantGet(t, d, n, 3, true)
		c.Delete(n)
		wantAll(t, c, tens(keys...))
		wantGet(t, m, n, 1, true)
	}
}

func TestCloneOfNone(t *testing.T) {
	m := order.New[int, int]()
	c := m.Clone()
	if c == nil {
		t.Fatal("Clone of an order of none: nil")
	}
	want(t, "Put", c.Put(1, 10), true)
	wantAll(t, m, nil)
	wantAll(t, c, tens(1))
}

func TestCloneHasTheValuesThemselves(t *testing.T) {
	x := 5
	m := order.New[string, *int]()
	m.Put("x", &x)
	c := m.Clone()
	p, ok := c.Get("x")
	want(t, "the value itself", p == &x && ok, true)
}

// P4.3

// wantRise tells whether each key of m is above the one ahead.
func wantRise[K cmp.Ordered, V any](t *testing.T, m *order.Map[K, V]) {
	t.Helper()
	keys := order.Keys(m)
	for i := 1; i < len(keys); i++ {
		if keys[i-1] >= keys[i] {
			t.Fatalf("the keys don't rise: %v", keys)
		}
	}
}

// permutations goes over all orders of l.
func permutations(l []int) iter.Seq[[]int] {
	return func(yield func([]int) bool) {
		if len(l) == 0 {
			yield(nil)
			return
		}
		for i, x := range l {
			for p := range permutations(slices.Delete(slices.Clone(l), i, i+1)) {
				if !yield(append([]int{x}, p...)) {
					return
				}
			}
		}
	}
}

func TestKeysRiseHoweverTheyArePutAndDeleted(t *testing.T) {
	keys := []int{1, 2, 3, 4, 5}
	for put := range permutations(keys) {
		m := order.New[int, int]()
		for i, k := range put {
			want(t, "Put", m.Put(k, 10*k), true)
			wantRise(t, m)
			want(t, "Len", m.Len(), i+1)
		}
		wantAll(t, m, tens(keys...))
	}
	for gone := range permutations(keys) {
		m := numbers(keys...)
		for i, k := range gone {
			want(t, "Delete", m.Delete(k), true)
			wantRise(t, m)
			want(t, "Len", m.Len(), len(keys)-i-1)
		}
	}
}

// sorted tells the pairs of a plain map by the keys' order.
func sorted[K cmp.Ordered, V any](plain map[K]V) []pair[K, V] {
	var pairs []pair[K, V]
	for _, k := range slices.Sorted(maps.Keys(plain)) {
		pairs = append(pairs, pair[K, V]{k, plain[k]})
	}
	return pairs
}

// wantNear asks m about any key k, and goes over the keys one by one for the answer.
func wantNear[K cmp.Ordered, V comparable](t *testing.T, m *order.Map[K, V], k K, pairs []pair[K, V]) {
	t.Helper()
	var at, floor pair[K, V]
	var there, hasFloor bool
	var from []pair[K, V]
	for _, p := range pairs {
		if p.k == k {
			at, there = p, true
		}
		if p.k <= k {
			floor, hasFloor = p, true
		}
		if p.k >= k {
			from = append(from, p)
		}
	}
	wantGet(t, m, k, at.v, there)
	wantFloor(t, m, k, floor.k, floor.v, hasFloor)
	wantList(t, "From", gathered(m.From(k)), from)
}

// wantLikePlain puts and deletes keys that are told by key, in an order and in a plain map.
func wantLikePlain[K cmp.Ordered](t *testing.T, seed int64, key func(*rand.Rand) K) {
	t.Helper()
	r := rand.New(rand.NewSource(seed))
	m, plain := order.New[K, int](), map[K]int{}
	for step := range 1500 {
		k := key(r)
		_, there := plain[k]
		if r.Intn(3) > 0 {
			want(t, "Put", m.Put(k, step), !there)
			plain[k] = step
		} else {
			want(t, "Delete", m.Delete(k), there)
			delete(plain, k)
		}
		wantRise(t, m)
		pairs := sorted(plain)
		wantNear(t, m, k, pairs)
		wantNear(t, m, key(r), pairs)
		if step%50 == 0 {
			wantAll(t, m, pairs)
			wantAll(t, m.Clone(), pairs)
		}
		if t.Failed() {
			return
		}
	}
}

type name string

func TestLikePlainMaps(t *testing.T) {
	wantLikePlain(t, 1, func(r *rand.Rand) int { return r.Intn(60) - 30 })
	wantLikePlain(t, 2, func(r *rand.Rand) uint8 { return uint8(r.Intn(256)) })
	wantLikePlain(t, 3, func(r *rand.Rand) float64 { return float64(r.Intn(80)-40) / 4 })
	wantLikePlain(t, 4, func(r *rand.Rand) name {
		b := make([]byte, r.Intn(4))
		for i := range b {
			b[i] = "\x00az\xff"[r.Intn(4)]
		}
		return name(b)
	})
}

func TestManyKeys(t *testing.T) {
	const n = 20000
	m := order.New[int, int]()
	// 7919 and n have no factor in common: each key comes once.
	for i := range n {
		want(t, "Put", m.Put(i*7919%n, i), true)
	}
	wantRise(t, m)
	for k := 0; k < n; k += 2 {
		want(t, "Delete", m.Delete(k), true)
	}
	wantRise(t, m)
	want(t, "Len", m.Len(), n/2)
	for k := range n {
		_, there := m.Get(k)
		want(t, "Get", there, k%2 == 1)
	}
}

func TestTextsAsKeys(t *testing.T) {
	m := order.New[string, int]()
	for i, k := range []string{"b", "", "ab", "a", "\xff", "a\x00"} {
		want(t, "Put", m.Put(k, i), true)
	}
	wantAll(t, m, []pair[string, int]{{"", 1}, {"a", 3}, {"a\x00", 5}, {"ab", 2}, {"b", 0}, {"\xff", 4}})
	wantFloor(t, m, "aa", "a\x00", 5, true)
	want(t, "Delete", m.Delete(""), true)
	wantFloor(t, m, "", "", 0, false)
}

func TestFloatsAsKeys(t *testing.T) {
	m := order.New[float64, int]()
	for i, k := range []float64{0, math.Inf(1), -1.5, math.Inf(-1), 1e-300} {
		want(t, "Put", m.Put(k, i), true)
	}
	wantAll(t, m, []pair[float64, int]{{math.Inf(-1), 3}, {-1.5, 2}, {0, 0}, {1e-300, 4}, {math.Inf(1), 1}})
	less := math.Copysign(0, -1) // equals nought
	wantGet(t, m, less, 0, true)
	want(t, "Put", m.Put(less, 9), false)
	wantGet(t, m, 0, 9, true)
	want(t, "Delete", m.Delete(less), true)
	wantGet(t, m, 0, 0, false)
}

// the sentence in brackets

func TestNilOrder(t *testing.T) {
	var m *order.Map[int, string]
	for range 2 {
		for _, k := range []int{math.MinInt, -1, 0, 1, math.MaxInt} {
			want(t, "Put", m.Put(k, "a"), false)
			wantGet(t, m, k, "", false)
			wantFloor(t, m, k, 0, "", false)
			want(t, "Delete", m.Delete(k), false)
			wantEnds(t, "From", m.From(k), nil)
		}
		wantAll(t, m, nil)
		wantEnds(t, "All", m.All(), nil)
		wantEnds(t, "Down", m.Down(), nil)
		want(t, "Clone", m.Clone() == nil, true)
		want(t, "Keys", order.Keys(m) == nil, true)
		want(t, "Count", order.Count(m, nil), 0)
	}
}

func TestKeysThatAreNoNumberDoNoHarm(t *testing.T) {
	// Nothing is promised of what they answer: but calls end, and none panics.
	nan := math.NaN()
	m := order.New[float64, int]()
	for _, k := range []float64{1, nan, -1, nan, math.Inf(-1), math.Inf(1)} {
		m.Put(k, 1)
	}
	m.Get(nan)
	m.Floor(nan)
	for _, s := range []iter.Seq2[float64, int]{m.All(), m.From(nan), m.Down(), m.Clone().All()} {
		gathered(s)
	}
	order.Keys(m)
	for _, k := range []float64{nan, 1, nan, -1, math.Inf(1), math.Inf(-1)} {
		m.Delete(k)
	}
}
