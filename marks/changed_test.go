package marks_test

import (
	"fmt"
	"math/rand"
	"slices"
	"testing"

	"breviary/api"
	"breviary/marks"
)

// commit that was noted: its number, and the blocks that it changed.
type commit struct {
	n      int
	blocks []int
}

// changed above n, by any of these commits.
func changed(l []commit, n int) []int {
	var blocks []int
	for _, c := range l {
		if c.n > n {
			blocks = append(blocks, c.blocks...)
		}
	}
	slices.Sort(blocks)
	return slices.Compact(blocks)
}

// wantChanged: from New's number on just those are told that a commit above changed; below it all are, as any may have been.
func wantChanged(t *testing.T, m *marks.Marks, blocks, first int, l []commit, n int) {
	t.Helper()
	told := m.Since(n)
	for _, k := range changed(l, n) {
		if !slices.Contains(told, k) {
			t.Errorf("%v: Since(%d): %v, and not %d", l, n, told, k)
		}
	}
	if n < first {
		want(t, "all may have been changed", len(told), blocks)
	} else if !slices.Equal(told, changed(l, n)) {
		t.Errorf("%v: Since(%d): %v, wanted %v", l, n, told, changed(l, n))
	}
}

// P12.2

// All runs of three commits, of each subset of three blocks, of each numbers that don't fall.
func TestWhatIsNotToldWasNotChanged(t *testing.T) {
	const first = 4
	for runs := range 512 {
		for numbers := range 27 {
			m := made(t, 3, first)
			n := first
			var l []commit
			for i := range 3 {
				n += numbers / []int{1, 3, 9}[i] % 3
				c := commit{n: n}
				for k := range 3 {
					if runs>>(3*i+k)&1 == 1 {
						c.blocks = append(c.blocks, k)
					}
				}
				note(t, m, c.n, c.blocks...)
				l = append(l, c)
				for ask := first - 2; ask <= n+2; ask++ {
					wantChanged(t, m, 3, first, l, ask)
				}
			}
		}
	}
}

// A block is told for each number below that of its last commit, whichever commits left it out since.
func TestACommitThatLeavesABlockOutDoesNotHideIt(t *testing.T) {
	m := made(t, 3, 0)
	note(t, m, 5, 1)
	for n := 6; n < 100; n++ {
		note(t, m, n, 0)
		note(t, m, n)
		wantSince(t, "below 5", m, 4, 0, 1)
		wantSince(t, "at 5", m, 5, 0)
		wantSince(t, "just below the last", m, n-1, 0)
		wantSince(t, "at the last", m, n)
	}
}

// beside marks stand the numbers, and the commits that were noted.
type beside struct {
	m       *marks.Marks
	first   int
	numbers []int
	l       []commit
}

func (b *beside) clone() *beside {
	return &beside{b.m.Clone(), b.first, slices.Clone(b.numbers), slices.Clone(b.l)}
}

// errorOf a Note, as the chapter tells it.
func (b *beside) errorOf(n int, blocks []int) api.Errno {
	if n < 0 || n > 1<<40 {
		return api.ErrArg
	}
	if n < slices.Max(b.numbers) {
		return api.ErrTurn
	}
	for _, k := range blocks {
		if k < 0 || k >= len(b.numbers) {
			return api.ErrBlock
		}
	}
	return api.OK
}

func (b *beside) note(t *testing.T, n int, blocks []int) {
	t.Helper()
	wanted := b.errorOf(n, blocks)
	want(t, fmt.Sprintf("Note(%d) of %v", n, blocks), b.m.Note(n, writes(blocks...)...), wanted)
	if wanted != api.OK {
		return
	}
	for _, k := range blocks {
		b.numbers[k] = n
	}
	b.l = append(b.l, commit{n, blocks})
}

func (b *beside) wantAll(t *testing.T) {
	t.Helper()
	wantMarks(t, "beside plain ones", b.m, b.numbers...)
	for _, c := range append(b.l, commit{n: b.first}) {
		for _, n := range []int{c.n - 1, c.n, c.n + 1} {
			wantChanged(t, b.m, len(b.numbers), b.first, b.l, n)
		}
	}
}

// Marks at random beside plain ones, cloned now and then, and gone on with on either side.
func TestMarksBesidePlainOnes(t *testing.T) {
	r := rand.New(rand.NewSource(12))
	for range 300 {
		blocks, first := 1+r.Intn(64), []int{0, 1, r.Intn(1000), 1<<40 - r.Intn(50)}[r.Intn(4)]
		all := []*beside{{made(t, blocks, first), first, slices.Repeat([]int{first}, blocks), nil}}
		for range 40 {
			b := all[r.Intn(len(all))]
			if r.Intn(8) == 0 {
				all = append(all, b.clone())
				continue
			}
			var l []int
			for range r.Intn(4) {
				l = append(l, r.Intn(blocks))
			}
			if r.Intn(6) == 0 {
				l = append(l, noBlocks(blocks)[r.Intn(len(noBlocks(blocks)))])
			}
			n := slices.Max(b.numbers) + r.Intn(5) - 1
			if r.Intn(20) == 0 {
				n = ends()[r.Intn(len(ends()))]
			}
			b.note(t, n, l)
		}
		for _, b := range all {
			b.wantAll(t)
		}
	}
}

// What is said of memory everywhere.

func TestWhatIsHandedInIsNeitherKeptNorChanged(t *testing.T) {
	m := made(t, 4, 1)
	l := append(make([]api.Write, 0, 4), api.Write{Block: 2, B: []byte{1, 2}}, api.Write{Block: 0})
	l[:3][2] = api.Write{Block: 3, B: []byte{3}}
	want(t, "Note", m.Note(2, l...), api.OK)
	wantMarks(t, "what is behind isn't read", m, 2, 1, 2, 1)
	want(t, "refused", m.Note(3, append(l[:1:1], api.Write{Block: 4})...), api.ErrBlock)
	for i, k := range []int{2, 0, 3, 0} {
		want(t, "a write's block", l[:4][i].Block, k)
		want(t, "a write's bytes", len(l[:4][i].B), []int{2, 0, 1, 0}[i])
	}
	want(t, "its bytes", [3]byte{l[0].B[0], l[0].B[1], l[:3][2].B[0]}, [3]byte{1, 2, 3})
	l[0].Block, l[1].Block, l[0].B[0] = 1, 3, 9
	wantMarks(t, "changed afterwards", m, 2, 1, 2, 1)
}

func TestAnswersAreNewMemory(t *testing.T) {
	m := made(t, 4, 1)
	for n := 2; n < 6; n++ {
		l, again := m.Since(0), m.Since(0)
		for i := range l[:cap(l)] {
			l[:cap(l)][i] = 70
		}
		want(t, "another answer", slices.Equal(again, []int{0, 1, 2, 3}), true)
		wantSince(t, "behind a changed list", m, 0, 0, 1, 2, 3)
		wantMarks(t, "behind a changed list", m, 1, n-1, 1, n-1)
		note(t, m, n, 3, 1)
		want(t, "an elder answer", slices.Equal(again, []int{0, 1, 2, 3}), true)
	}
}

func TestMarksSideBySide(t *testing.T) {
	a, b := made(t, 3, 1), made(t, 5, 1)
	note(t, a, 9, 0)
	note(t, b, 2, 4)
	other := made(t, 3, 1)
	wantMarks(t, "the one", a, 9, 1, 1)
	wantMarks(t, "another", b, 1, 1, 1, 1, 2)
	wantMarks(t, "made later", other, 1, 1, 1)
	wantNoNote(t, "its own blocks", a, 9, api.ErrBlock, 4)
	wantNoNote(t, "its own turn", a, 2, api.ErrTurn, 2)
}
