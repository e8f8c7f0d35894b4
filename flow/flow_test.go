package flow_test

import (
	"iter"
	"math"
	"math/rand"
	"slices"
	"strconv"
	"testing"

	"breviary/flow"
)

func want(t *testing.T, what string, got, wanted any) {
	t.Helper()
	if got != wanted {
		t.Errorf("%s: %v, wanted %v", what, got, wanted)
	}
}

func wantList[T comparable](t *testing.T, what string, got, wanted []T) {
	t.Helper()
	if !slices.Equal(got, wanted) {
		t.Errorf("%s: %v, wanted %v", what, got, wanted)
	}
}

func wantLists(t *testing.T, what string, got, wanted [][]int) {
	t.Helper()
	if !slices.EqualFunc(got, wanted, slices.Equal[[]int]) {
		t.Errorf("%s: %v, wanted %v", what, got, wanted)
	}
}

func wantFind(t *testing.T, what string, s iter.Seq[int], is func(int) bool, found int, ok bool) {
	t.Helper()
	if got, there := flow.Find(s, is); got != found || there != ok {
		t.Errorf("%s: %v %v, wanted %v %v", what, got, there, found, ok)
	}
}

// brought is what s brings up to its most-th one, where it is told to end, gathered without package flow.
func brought[T any](s iter.Seq[T], most int) []T {
	var l []T
	s(func(v T) bool {
		l = append(l, v)
		return len(l) < most
	})
	return l
}

// whole is all that s brings, gathered without package flow.
func whole[T any](s iter.Seq[T]) []T {
	return brought(s, math.MaxInt)
}

// source brings numbers, and tells what was asked of it.
type source struct {
	list  []int
	asked int  // how many it brought
	begun int  // how often it was gone through
	ended bool // told to, at the last
}

func (s *source) seq() iter.Seq[int] {
	return func(yield func(int) bool) {
		s.begun++
		s.ended = false
		for _, n := range s.list {
			s.asked++
			if !yield(n) {
				s.ended = true
				return
			}
		}
	}
}

func upTo(n int) []int {
	var l []int
	for i := range n {
		l = append(l, i+1)
	}
	return l
}

func counted(list ...int) *source {
	return &source{list: list}
}

func odd(n int) bool  { return n%2 == 1 }
func even(n int) bool { return n%2 == 0 }
func all(int) bool    { return true }
func none(int) bool   { return false }

func is(wanted int) func(int) bool {
	return func(n int) bool { return n == wanted }
}

func above(least int) func(int) bool {
	return func(n int) bool { return n > least }
}

// endless brings 1, 2, 3 and so on, till it is told to end.
func endless(yield func(int) bool) {
	for n := 1; yield(n); n++ {
	}
}

// P5.1

func TestOf(t *testing.T) {
	wantList(t, "three", whole(flow.Of(5, 6, 7)), []int{5, 6, 7})
	wantList(t, "alike ones", whole(flow.Of(5, 5, 0, 5)), []int{5, 5, 0, 5})
	wantList(t, "one", whole(flow.Of("a")), []string{"a"})
	wantList(t, "none", whole(flow.Of[int]()), nil)
	wantList(t, "a nil list", whole(flow.Of([]int(nil)...)), nil)
	wantList(t, "an empty list", whole(flow.Of([]int{}...)), nil)
	wantList(t, "a list", whole(flow.Of(upTo(100)...)), upTo(100))
}

func TestOfKeepsNothingThatIsHandedIn(t *testing.T) {
	l := []int{5, 6, 7, 8}
	s := flow.Of(l[:2]...)
	l[0], l[2] = 50, 70
	wantList(t, "behind a change", whole(s), []int{5, 6})
	wantList(t, "the list", l, []int{50, 6, 70, 8})
}

func TestMap(t *testing.T) {
	wantList(t, "texts", whole(flow.Map(flow.Of(1, -2, 30), strconv.Itoa)), []string{"1", "-2", "30"})
	wantList(t, "none", whole(flow.Map(flow.Of[int](), strconv.Itoa)), nil)
	wantList(t, "a type to itself", whole(flow.Map(flow.Of(1, 2), func(n int) int { return n * n * 3 })), []int{3, 12})
	var seen []int
	whole(flow.Map(flow.Of(3, 1, 2), func(n int) bool { seen = append(seen, n); return false }))
	wantList(t, "f is asked once for each, in order", seen, []int{3, 1, 2})
}

func TestKeep(t *testing.T) {
	s := flow.Of(1, 2, 3, 4, 5, 5)
	wantList(t, "odd ones", whole(flow.Keep(s, odd)), []int{1, 3, 5, 5})
	wantList(t, "even ones", whole(flow.Keep(s, even)), []int{2, 4})
	wantList(t, "all", whole(flow.Keep(s, all)), []int{1, 2, 3, 4, 5, 5})
	wantList(t, "none is so", whole(flow.Keep(s, none)), nil)
	wantList(t, "of none", whole(flow.Keep(flow.Of[int](), all)), nil)
}

func TestFirst(t *testing.T) {
	s := flow.Of(5, 6, 7)
	for _, c := range []struct {
		n      int
		wanted []int
	}{
		{math.MinInt, nil}, {-1, nil}, {0, nil}, {1, []int{5}}, {2, []int{5, 6}},
		{3, []int{5, 6, 7}}, {4, []int{5, 6, 7}}, {math.MaxInt, []int{5, 6, 7}},
	} {
		wantList(t, "First of "+strconv.Itoa(c.n), whole(flow.First(s, c.n)), c.wanted)
		wantList(t, "of none, First of "+strconv.Itoa(c.n), whole(flow.First(flow.Of[int](), c.n)), nil)
	}
}

func TestExample(t *testing.T) {
	wantList(t, "List of First of 2 of Of 5, 6, 7", flow.List(flow.First(flow.Of(5, 6, 7), 2)), []int{5, 6})
}

func TestJoin(t *testing.T) {
	a, b, no := flow.Of(1, 2), flow.Of(3), flow.Of[int]()
	wantList(t, "two", whole(flow.Join(a, b)), []int{1, 2, 3})
	wantList(t, "the other way round", whole(flow.Join(b, a)), []int{3, 1, 2})
	wantList(t, "one twice", whole(flow.Join(a, a)), []int{1, 2, 1, 2})
	wantList(t, "one", whole(flow.Join(a)), []int{1, 2})
	wantList(t, "no sequence", whole(flow.Join[int]()), nil)
	wantList(t, "sequences of none", whole(flow.Join(no, no)), nil)
	wantList(t, "some of none", whole(flow.Join(no, a, no, no, b, no)), []int{1, 2, 3})
	wantList(t, "a nil list", whole(flow.Join([]iter.Seq[int](nil)...)), nil)
}

func TestJoinKeepsNothingThatIsHandedIn(t *testing.T) {
	l := []iter.Seq[int]{flow.Of(1), flow.Of(2), flow.Of(3)}
	s := flow.Join(l[:2]...)
	l[0], l[1], l[2] = nil, flow.Of(20), flow.Of(30)
	wantList(t, "behind a change", whole(s), []int{1, 2})
}

func TestUntil(t *testing.T) {
	s := flow.Of(5, 6, 7, 6)
	wantList(t, "the first one is so", whole(flow.Until(s, is(5))), nil)
	wantList(t, "one in the middle, and a later one", whole(flow.Until(s, is(6))), []int{5})
	wantList(t, "one that more follow that aren't so", whole(flow.Until(s, is(7))), []int{5, 6})
	wantList(t, "none is so", whole(flow.Until(s, none)), []int{5, 6, 7, 6})
	wantList(t, "the last one", whole(flow.Until(flow.Of(1, 2, 3), is(3))), []int{1, 2})
	wantList(t, "of none", whole(flow.Until(flow.Of[int](), all)), nil)
}

func TestRuns(t *testing.T) {
	s := flow.Of(1, 2, 3, 4, 5, 6, 7)
	for _, c := range []struct {
		n      int
		wanted [][]int
	}{
		{math.MinInt, nil}, {-1, nil}, {0, nil},
		{1, [][]int{{1}, {2}, {3}, {4}, {5}, {6}, {7}}},
		{2, [][]int{{1, 2}, {3, 4}, {5, 6}, {7}}},
		{3, [][]int{{1, 2, 3}, {4, 5, 6}, {7}}},
		{4, [][]int{{1, 2, 3, 4}, {5, 6, 7}}},
		{6, [][]int{{1, 2, 3, 4, 5, 6}, {7}}},
		{7, [][]int{{1, 2, 3, 4, 5, 6, 7}}},
		{8, [][]int{{1, 2, 3, 4, 5, 6, 7}}},
		{math.MaxInt, [][]int{{1, 2, 3, 4, 5, 6, 7}}},
	} {
		wantLists(t, "Runs of "+strconv.Itoa(c.n), whole(flow.Runs(s, c.n)), c.wanted)
		wantLists(t, "of none, Runs of "+strconv.Itoa(c.n), whole(flow.Runs(flow.Of[int](), c.n)), nil)
	}
	wantLists(t, "no shorter one behind", whole(flow.Runs(flow.Of(1, 2, 3, 4), 2)), [][]int{{1, 2}, {3, 4}})
}

func TestFold(t *testing.T) {
	text := func(u string, n int) string { return "(" + u + strconv.Itoa(n) + ")" }
	want(t, "the order", flow.Fold(flow.Of(1, 2, 3), "u", text), "(((u1)2)3)")
	want(t, "one", flow.Fold(flow.Of(1), "u", text), "(u1)")
	want(t, "of none", flow.Fold(flow.Of[int](), "u", text), "u")
	want(t, "a sum", flow.Fold(flow.Of(upTo(100)...), 7, func(u, n int) int { return u + n }), 5057)
}

func TestList(t *testing.T) {
	wantList(t, "three", flow.List(flow.Of(7, 5, 6)), []int{7, 5, 6})
	want(t, "of none", len(flow.List(flow.Of[int]())), 0)
	wantList(t, "a sequence of the library", flow.List(slices.Values([]string{"b", "a"})), []string{"b", "a"})
}

func TestListIsNewMemory(t *testing.T) {
	own := []int{5, 6, 7}
	s := flow.Of(own...)
	l := flow.List(s)
	l[0] = 50
	_ = append(l[:1], 60)
	wantList(t, "the sequence, behind changes of a list of it", whole(s), []int{5, 6, 7})
	wantList(t, "another list of it", flow.List(s), []int{5, 6, 7})
	wantList(t, "what it is made of", own, []int{5, 6, 7})
}

func TestFind(t *testing.T) {
	s := flow.Of(5, 6, 7, 8)
	wantFind(t, "the first one is so", s, odd, 5, true)
	wantFind(t, "one in the middle, and a later one", s, even, 6, true)
	wantFind(t, "the last one", s, is(8), 8, true)
	wantFind(t, "none is so", s, is(9), 0, false)
	wantFind(t, "of none", flow.Of[int](), all, 0, false)
	wantFind(t, "a nought that is so", flow.Of(3, 0, 4), is(0), 0, true)
}

// P5.2

// made are sequences made of s, each with what it brings where s brings 1 to 7.
func made(s iter.Seq[int]) map[string]struct {
	seq    iter.Seq[int]
	wanted []int
} {
	type one = struct {
		seq    iter.Seq[int]
		wanted []int
	}
	return map[string]one{
		"Map":           {flow.Map(s, func(n int) int { return -n }), []int{-1, -2, -3, -4, -5, -6, -7}},
		"Keep":          {flow.Keep(s, even), []int{2, 4, 6}},
		"First":         {flow.First(s, 5), upTo(5)},
		"First of more": {flow.First(s, 9), upTo(7)},
		"Join":          {flow.Join(s, flow.Of[int](), s), append(upTo(7), upTo(7)...)},
		"Until":         {flow.Until(s, is(6)), upTo(5)},
		"Until none":    {flow.Until(s, none), upTo(7)},
		"Runs":          {flow.Map(flow.Runs(s, 3), func(l []int) int { return l[0] }), []int{1, 4, 7}},
		"all of them": {
			flow.Join(flow.First(flow.Keep(s, odd), 3), flow.Map(flow.Until(s, is(3)), func(n int) int { return n + 10 })),
			[]int{1, 3, 5, 11, 12},
		},
	}
}

func TestSequencesEndWhenTheyAreToldTo(t *testing.T) {
	for what, c := range made(flow.Of(upTo(7)...)) {
		for most := 1; most <= len(c.wanted)+1; most++ {
			calls := 0
			c.seq(func(n int) bool {
				calls++
				return calls < most
			})
			want(t, what+": calls, told to end at "+strconv.Itoa(most), calls, min(most, len(c.wanted)))
			wantList(t, what+": again, up to "+strconv.Itoa(most), brought(c.seq, most), c.wanted[:min(most, len(c.wanted))])
		}
		wantList(t, what+": gone through again", whole(c.seq), c.wanted)
		wantList(t, what+": and again", whole(c.seq), c.wanted)
	}
	of := flow.Of(1, 2, 3)
	wantList(t, "Of, told to end at once", brought(of, 1), []int{1})
	wantList(t, "Of, in the middle", brought(of, 2), []int{1, 2})
	wantList(t, "Of, again", whole(of), []int{1, 2, 3})
}

func TestSequencesAreGoneThroughWithinThemselves(t *testing.T) {
	for what, c := range made(flow.Of(upTo(7)...)) {
		var outer []int
		for n := range c.seq {
			outer = append(outer, n)
			wantList(t, what+": the inner one", whole(c.seq), c.wanted)
		}
		wantList(t, what+": the outer one", outer, c.wanted)
	}
}

func TestNothingIsAskedForAheadOfItsTime(t *testing.T) {
	s := counted(upTo(7)...)
	made(s.seq())
	flow.Map(flow.Of(1), func(int) int { t.Error("Map asks f when it is made"); return 0 })
	want(t, "begun when sequences are made", s.begun, 0)
}

func TestHowManyAreAskedFor(t *testing.T) {
	for _, c := range []struct {
		what string
		of   func(iter.Seq[int]) iter.Seq[int]
		// asked[i]: how many are asked for till the (i+1)th one is brought and the sequence is told to end; the last one: till it ends itself.
		asked []int
	}{
		{"Map", func(s iter.Seq[int]) iter.Seq[int] { return flow.Map(s, func(n int) int { return n }) }, []int{1, 2, 3, 4, 5, 6, 7, 7}},
		{"Keep", func(s iter.Seq[int]) iter.Seq[int] { return flow.Keep(s, even) }, []int{2, 4, 6, 7}},
		{"Keep none", func(s iter.Seq[int]) iter.Seq[int] { return flow.Keep(s, none) }, []int{7}},
		{"First of -1", func(s iter.Seq[int]) iter.Seq[int] { return flow.First(s, -1) }, []int{0}},
		{"First of 0", func(s iter.Seq[int]) iter.Seq[int] { return flow.First(s, 0) }, []int{0}},
		{"First of 1", func(s iter.Seq[int]) iter.Seq[int] { return flow.First(s, 1) }, []int{1, 1}},
		{"First of 4", func(s iter.Seq[int]) iter.Seq[int] { return flow.First(s, 4) }, []int{1, 2, 3, 4, 4}},
		{"First of 7", func(s iter.Seq[int]) iter.Seq[int] { return flow.First(s, 7) }, []int{1, 2, 3, 4, 5, 6, 7, 7}},
		{"First of 9", func(s iter.Seq[int]) iter.Seq[int] { return flow.First(s, 9) }, []int{1, 2, 3, 4, 5, 6, 7, 7}},
		{"Until 1", func(s iter.Seq[int]) iter.Seq[int] { return flow.Until(s, is(1)) }, []int{1}},
		{"Until 3", func(s iter.Seq[int]) iter.Seq[int] { return flow.Until(s, is(3)) }, []int{1, 2, 3}},
		{"Until none", func(s iter.Seq[int]) iter.Seq[int] { return flow.Until(s, none) }, []int{1, 2, 3, 4, 5, 6, 7, 7}},
		{"Runs of 0", func(s iter.Seq[int]) iter.Seq[int] { return heads(flow.Runs(s, 0)) }, []int{0}},
		{"Runs of 1", func(s iter.Seq[int]) iter.Seq[int] { return heads(flow.Runs(s, 1)) }, []int{1, 2, 3, 4, 5, 6, 7, 7}},
		{"Runs of 3", func(s iter.Seq[int]) iter.Seq[int] { return heads(flow.Runs(s, 3)) }, []int{3, 6, 7, 7}},
		{"Runs of 7", func(s iter.Seq[int]) iter.Seq[int] { return heads(flow.Runs(s, 7)) }, []int{7, 7}},
		{"Join", func(s iter.Seq[int]) iter.Seq[int] { return flow.Join(flow.Of(50), s, flow.Of(60)) }, []int{0, 1, 2, 3, 4, 5, 6, 7, 7, 7}},
		{"First of First", func(s iter.Seq[int]) iter.Seq[int] { return flow.First(flow.First(s, 4), 2) }, []int{1, 2, 2}},
		{"First of Keep", func(s iter.Seq[int]) iter.Seq[int] { return flow.First(flow.Keep(s, odd), 2) }, []int{1, 3, 3}},
		{"First of Runs", func(s iter.Seq[int]) iter.Seq[int] { return heads(flow.First(flow.Runs(s, 2), 2)) }, []int{2, 4, 4}},
		{"Runs of First", func(s iter.Seq[int]) iter.Seq[int] { return heads(flow.Runs(flow.First(s, 4), 2)) }, []int{2, 4, 4}},
		{"Until of Map", func(s iter.Seq[int]) iter.Seq[int] {
			return flow.Until(flow.Map(s, func(n int) int { return n * n }), above(9))
		}, []int{1, 2, 3, 4}},
	} {
		for i, asked := range c.asked {
			s := counted(upTo(7)...)
			got := brought(c.of(s.seq()), i+1)
			want(t, c.what+": brought", len(got), min(i+1, len(c.asked)-1))
			want(t, c.what+": asked for till "+strconv.Itoa(i+1)+" are brought", s.asked, asked)
		}
	}
}

// heads are the first ones of lists.
func heads(lists iter.Seq[[]int]) iter.Seq[int] {
	return func(yield func(int) bool) {
		for l := range lists {
			if !yield(l[0]) {
				return
			}
		}
	}
}

func TestJoinBeginsEachWhenItsTurnComes(t *testing.T) {
	a, b := counted(1, 2), counted(3, 4)
	s := flow.Join(a.seq(), b.seq())
	brought(s, 2)
	want(t, "the first one, told to end at its last", a.asked, 2)
	want(t, "the second one isn't begun", b.begun, 0)
	brought(s, 3)
	want(t, "the second one is begun", b.begun, 1)
	want(t, "and asked for one", b.asked, 1)
	want(t, "and told to end", b.ended, true)
}

func TestHowManyFindAsksFor(t *testing.T) {
	for _, c := range []struct{ of, asked int }{{1, 1}, {3, 3}, {7, 7}, {8, 7}} {
		s := counted(upTo(7)...)
		flow.Find(s.seq(), is(c.of))
		want(t, "Find "+strconv.Itoa(c.of), s.asked, c.asked)
		want(t, "Find tells it to end", s.ended, c.of < 8)
	}
}

func TestFunctionsAreAskedOnlyAsFarAsNeeded(t *testing.T) {
	calls := 0
	mapped := flow.Map(flow.Of(upTo(7)...), func(n int) int { calls++; return n })
	brought(mapped, 3)
	want(t, "Map's, three brought", calls, 3)
	calls = 0
	is := func(n int) bool { calls++; return n == 4 }
	flow.List(flow.Until(flow.Of(upTo(7)...), is))
	want(t, "Until's", calls, 4)
	calls = 0
	flow.Find(flow.Of(upTo(7)...), is)
	want(t, "Find's", calls, 4)
	calls = 0
	brought(flow.Keep(flow.Of(upTo(7)...), is), 1)
	want(t, "Keep's", calls, 4)
	calls = 0
	flow.Fold(flow.Of(upTo(7)...), 0, func(u, n int) int { calls++; return u })
	want(t, "Fold's", calls, 7)
}

func TestSequencesWithoutEnd(t *testing.T) {
	wantList(t, "First", flow.List(flow.First(endless, 3)), []int{1, 2, 3})
	wantList(t, "Until", flow.List(flow.Until(endless, is(4))), []int{1, 2, 3})
	wantFind(t, "Find", endless, above(99), 100, true)
	wantLists(t, "Runs", flow.List(flow.First(flow.Runs(endless, 2), 2)), [][]int{{1, 2}, {3, 4}})
	wantList(t, "First of none", flow.List(flow.First(endless, 0)), nil)
	wantLists(t, "Runs of none", flow.List(flow.Runs(endless, 0)), nil)
	wantList(t, "Join", flow.List(flow.First(flow.Join(endless, endless), 2)), []int{1, 2})
	wantList(t, "Keep by nothing", flow.List(flow.Keep(endless, nil)), nil)
	wantList(t, "Map by nothing", flow.List(flow.Map[int, int](endless, nil)), nil)
	want(t, "Fold by nothing", flow.Fold(endless, 7, nil), 7)
	wantFind(t, "Find by nothing", endless, nil, 0, false)
}

// P5.3

func TestPartsAreTheList(t *testing.T) {
	r := rand.New(rand.NewSource(5))
	for range 500 {
		list := make([]int, r.Intn(20))
		for i := range list {
			list[i] = r.Intn(10)
		}
		n := 1 + r.Intn(8)
		s := flow.Of(list...)
		kept := flow.List(flow.Keep(s, above(n)))
		rest := flow.List(flow.Keep(s, func(x int) bool { return !above(n)(x) }))
		want(t, "kept and not kept", len(kept)+len(rest), len(list))
		var joined []int
		lists := flow.List(flow.Runs(s, n))
		for i, l := range lists {
			joined = append(joined, l...)
			if len(l) != n && (i < len(lists)-1 || len(l) < 1 || len(l) > n) {
				t.Errorf("Runs of %d of %v: %v", n, list, lists)
			}
		}
		wantList(t, "Runs joined", joined, list)
		wantList(t, "Runs joined by Join", flow.List(flow.Join(flow.List(flow.Map(flow.Runs(s, n), sequence))...)), list)
		wantSplit(t, list, above(n))
	}
}

// wantSplit tells whether Until and Find split list where the first one is so.
func wantSplit(t *testing.T, list []int, is func(int) bool) {
	t.Helper()
	at := slices.IndexFunc(list, is)
	if at < 0 {
		wantList(t, "Until", flow.List(flow.Until(flow.Of(list...), is)), list)
		wantFind(t, "Find", flow.Of(list...), is, 0, false)
		return
	}
	wantList(t, "Until", flow.List(flow.Until(flow.Of(list...), is)), list[:at])
	wantFind(t, "Find", flow.Of(list...), is, list[at], true)
}

func sequence(l []int) iter.Seq[int] {
	return flow.Of(l...)
}

func TestRunsMayBeKeptAndChanged(t *testing.T) {
	s := flow.Runs(flow.Of(1, 2, 3, 4, 5, 6, 7), 3)
	var kept [][]int
	for l := range s {
		kept = append(kept, l)
	}
	wantLists(t, "kept", kept, [][]int{{1, 2, 3}, {4, 5, 6}, {7}})
	for _, l := range kept {
		l = l[:cap(l)] // spare room too
		for i := range l {
			l[i] = -9
		}
	}
	wantLists(t, "again, behind changes", whole(s), [][]int{{1, 2, 3}, {4, 5, 6}, {7}})
	var seen [][]int
	for l := range s {
		seen = append(seen, slices.Clone(l))
		l[0] = -1
		_ = append(l, -1, -1)
	}
	wantLists(t, "changed on the way", seen, [][]int{{1, 2, 3}, {4, 5, 6}, {7}})
}

// the sentence in brackets

func TestNilSequences(t *testing.T) {
	wantList(t, "Map", whole(flow.Map[int](nil, strconv.Itoa)), nil)
	wantList(t, "Keep", whole(flow.Keep(nil, all)), nil)
	wantList(t, "First", whole(flow.First[int](nil, 3)), nil)
	wantList(t, "First of none", whole(flow.First[int](nil, 0)), nil)
	wantList(t, "Join", whole(flow.Join[int](nil)), nil)
	wantList(t, "Join, amid others", whole(flow.Join(nil, flow.Of(1), nil, flow.Of(2), nil)), []int{1, 2})
	wantList(t, "Until", whole(flow.Until(nil, none)), nil)
	wantLists(t, "Runs", whole(flow.Runs[int](nil, 3)), nil)
	want(t, "Fold", flow.Fold(nil, 7, func(u, n int) int { return u + n }), 7)
	wantList(t, "List", flow.List[int](nil), nil)
	wantFind(t, "Find", nil, all, 0, false)
}

func TestNilFunctions(t *testing.T) {
	s := counted(1, 2, 3)
	wantList(t, "Map", whole(flow.Map[int, int](s.seq(), nil)), nil)
	want(t, "Fold", flow.Fold(s.seq(), 7, nil), 7)
	wantList(t, "Keep", whole(flow.Keep(s.seq(), nil)), nil)
	wantFind(t, "Find", s.seq(), nil, 0, false)
	want(t, "asked for", s.asked, 0)
	wantList(t, "Until", whole(flow.Until(s.seq(), nil)), []int{1, 2, 3})
	wantList(t, "Map of nil", whole(flow.Map[int, int](nil, nil)), nil)
	want(t, "Fold of nil", flow.Fold[int](nil, 7, nil), 7)
	wantList(t, "Keep of nil", whole(flow.Keep[int](nil, nil)), nil)
	wantList(t, "Until of nil", whole(flow.Until[int](nil, nil)), nil)
	wantFind(t, "Find of nil", nil, nil, 0, false)
}

// wrong inputs

// stubborn brings 1 to 7, whatever it is told.
func stubborn(yield func(int) bool) {
	for n := range 7 {
		yield(n + 1)
	}
}

func TestSourcesThatDoNotEnd(t *testing.T) {
	for what, c := range made(stubborn) {
		for most := 1; most <= len(c.wanted)+1; most++ {
			wantList(t, what+" up to "+strconv.Itoa(most), ranged(c.seq, most), c.wanted[:min(most, len(c.wanted))])
		}
	}
	wantFind(t, "Find", stubborn, above(2), 3, true)
	wantList(t, "List", flow.List(stubborn), upTo(7))
}

// ranged is what a range over s brings up to its most-th one: it panics where s goes on behind that.
func ranged(s iter.Seq[int], most int) []int {
	var l []int
	for n := range s {
		l = append(l, n)
		if len(l) == most {
			break
		}
	}
	return l
}

func TestSourcesThatCallLate(t *testing.T) {
	var late func(int) bool
	keeping := func(yield func(int) bool) {
		late = yield
		for n := range 7 {
			if !yield(n + 1) {
				return
			}
		}
	}
	for what, c := range made(keeping) {
		wantList(t, what, ranged(c.seq, 99), c.wanted)
		want(t, what+": a late call", late(8), false)
	}
	l := flow.List(keeping)
	late(8)
	wantList(t, "List", l, upTo(7))
}

func TestPanicsOfTheCallerGoThrough(t *testing.T) {
	for what, do := range map[string]func(){
		"Map's function":  func() { flow.List(flow.Map(flow.Of(1), func(int) int { panic("own") })) },
		"Keep's function": func() { flow.List(flow.Keep(flow.Of(1), func(int) bool { panic("own") })) },
		"a source":        func() { flow.List(func(func(int) bool) { panic("own") }) },
		"a loop's body": func() {
			for range flow.First(flow.Of(1), 1) {
				panic("own")
			}
		},
	} {
		func() {
			defer func() { want(t, what, recover(), "own") }()
			do()
		}()
	}
}
