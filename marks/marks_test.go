package marks_test

import (
	"fmt"
	"math"
	"slices"
	"testing"

	"breviary/api"
	"breviary/marks"
)

func want[T comparable](t *testing.T, what string, got, wanted T) {
	t.Helper()
	if got != wanted {
		t.Errorf("%s: %v, wanted %v", what, got, wanted)
	}
}

func made(t *testing.T, blocks, n int) *marks.Marks {
	t.Helper()
	m, e := marks.New(blocks, n)
	if e != api.OK || m == nil {
		t.Fatalf("New(%d, %d): %v, %v", blocks, n, m, e)
	}
	return m
}

// writes of these blocks, each of 64 bytes.
func writes(blocks ...int) []api.Write {
	var l []api.Write
	for _, k := range blocks {
		l = append(l, api.Write{Block: k, B: make([]byte, api.Sector)})
	}
	return l
}

func note(t *testing.T, m *marks.Marks, n int, blocks ...int) {
	t.Helper()
	want(t, fmt.Sprintf("Note(%d) of %v", n, blocks), m.Note(n, writes(blocks...)...), api.OK)
}

func wantNoNote(t *testing.T, what string, m *marks.Marks, n int, wanted api.Errno, blocks ...int) {
	t.Helper()
	want(t, fmt.Sprintf("%s: Note(%d) of %v", what, n, blocks), m.Note(n, writes(blocks...)...), wanted)
}

func wantSince(t *testing.T, what string, m *marks.Marks, n int, wanted ...int) {
	t.Helper()
	if l := m.Since(n); !slices.Equal(l, wanted) {
		t.Errorf("%s: Since(%d): %v, wanted %v", what, n, l, wanted)
	}
}

// above are the blocks whose number is above n.
func above(numbers []int, n int) []int {
	var l []int
	for k, last := range numbers {
		if last > n {
			l = append(l, k)
		}
	}
	return l
}

// wantMarks asks all calls for the numbers of all blocks.
func wantMarks(t *testing.T, what string, m *marks.Marks, numbers ...int) {
	t.Helper()
	for k, wanted := range numbers {
		want(t, fmt.Sprintf("%s: At(%d)", what, k), m.At(k), wanted)
	}
	want(t, what+": At(-1)", m.At(-1), -1)
	want(t, what+": At of one beyond", m.At(len(numbers)), -1)
	want(t, what+": Most", m.Most(), slices.Max(numbers))
	for _, n := range slices.Compact(slices.Sorted(slices.Values(numbers))) {
		for _, edge := range []int{n - 1, n, n + 1} {
			wantSince(t, what, m, edge, above(numbers, edge)...)
		}
	}
	wantSince(t, what, m, math.MinInt, above(numbers, -1)...)
	wantSince(t, what, m, math.MaxInt)
}

// ends of the numbers, and what wraps round to a number in range, if it is added to or cut.
func ends() []int {
	return []int{
		math.MinInt, math.MinInt + 1, math.MinInt + 64, math.MinInt + 1<<40, -1<<41 - 1, -1 << 40, -1<<40 + 1,
		math.MinInt32 - 1, math.MinInt32, -1 << 32, -65, -64, -63, -2, -1,
		1<<40 + 1, 1<<40 + 2, 1<<40 + 64, 1 << 41, 1<<41 + 1, 1 << 62, math.MaxInt - 1<<40, math.MaxInt - 1, math.MaxInt,
	}
}

// noBlocks, where there are so many.
func noBlocks(blocks int) []int {
	return append(ends(), blocks, blocks+1, blocks+64, 127, 128, 1<<16, 1<<16+1, math.MaxInt32, 1<<32, 1<<32+1, 1<<40)
}

// P12.1: New

func TestNew(t *testing.T) {
	for blocks := 1; blocks <= 64; blocks++ {
		for _, n := range []int{0, 1, 2, 63, 64, 65, math.MaxInt32, 1 << 32, 1<<40 - 1, 1 << 40} {
			m := made(t, blocks, n)
			wantMarks(t, fmt.Sprintf("New(%d, %d)", blocks, n), m, slices.Repeat([]int{n}, blocks)...)
			note(t, m, n, blocks-1)
			wantNoNote(t, "one beyond", m, n, api.ErrBlock, blocks)
		}
	}
}

func wantNoMarks(t *testing.T, blocks, n int) {
	t.Helper()
	if m, e := marks.New(blocks, n); e != api.ErrArg || m != nil {
		t.Errorf("New(%d, %d): %v, %v, wanted nil, %v", blocks, n, m, e, api.ErrArg)
	}
}

func TestNewOfWrongNumbers(t *testing.T) {
	wrong := append(ends(), 0, 65, 66, 128, 1<<8+1, 1<<16+1, 1<<32, 1<<32+1, 1<<40)
	for _, blocks := range wrong {
		for _, n := range append(ends(), 0, 1, 1<<40-1, 1<<40) {
			wantNoMarks(t, blocks, n)
		}
	}
	for _, n := range ends() {
		for _, blocks := range []int{1, 2, 63, 64} {
			wantNoMarks(t, blocks, n)
		}
	}
}

// P12.1: Note

func TestNoteOfEachBlock(t *testing.T) {
	for _, blocks := range []int{1, 2, 5, 63, 64} {
		m, numbers := made(t, blocks, 7), slices.Repeat([]int{7}, blocks)
		for i := range blocks {
			k := (i*29 + 11) % blocks // each of them, as 29 has no part in common with any of these sizes
			note(t, m, 8+i, k)
			numbers[k] = 8 + i
			wantMarks(t, fmt.Sprintf("%d blocks, behind %d commits", blocks, i+1), m, numbers...)
		}
	}
}

func TestNoteOfSeveralBlocks(t *testing.T) {
	m := made(t, 5, 3)
	note(t, m, 4, 0, 2)
	wantMarks(t, "two", m, 4, 3, 4, 3, 3)
	note(t, m, 9, 4, 2, 1)
	wantMarks(t, "three, falling", m, 4, 9, 9, 3, 9)
	note(t, m, 10, 3, 3, 3)
	wantMarks(t, "one, three times", m, 4, 9, 9, 10, 9)
	note(t, m, 11, 0, 1, 2, 3, 4)
	wantMarks(t, "all", m, 11, 11, 11, 11, 11)
	note(t, m, 12, 1, 4, 1, 0, 4, 1)
	wantMarks(t, "some of them more than once", m, 12, 12, 11, 11, 12)
}

// The number may be the greatest one once more, and leave out any that are between.
func TestNoteOfEachNumber(t *testing.T) {
	for _, first := range []int{0, 1, 1000, 1<<40 - 3} {
		m := made(t, 3, first)
		note(t, m, first, 0)
		wantMarks(t, "the number of New", m, first, first, first)
		note(t, m, first+1, 1)
		wantMarks(t, "one above", m, first, first+1, first)
		note(t, m, first+1, 1, 2)
		wantMarks(t, "the same again", m, first, first+1, first+1)
		wantNoNote(t, "one below", m, first, api.ErrTurn, 0)
		wantNoNote(t, "one below, of no writes", m, first, api.ErrTurn)
		wantMarks(t, "refused", m, first, first+1, first+1)
		note(t, m, first+3, 2)
		wantMarks(t, "one left out", m, first, first+1, first+3)
		for _, n := range []int{0, first, first + 1, first + 2} {
			wantNoNote(t, "below", m, n, api.ErrTurn, 0)
		}
		note(t, m, 1<<40, 0)
		wantMarks(t, "the greatest of all", m, 1<<40, first+1, first+3)
		wantNoNote(t, "one beyond", m, 1<<40+1, api.ErrArg, 1)
		wantNoNote(t, "one below the greatest of all", m, 1<<40-1, api.ErrTurn, 1)
		note(t, m, 1<<40, 1, 2)
		wantMarks(t, "the greatest of all, again", m, 1<<40, 1<<40, 1<<40)
	}
}

// No block has the number of a commit of no writes, so that it isn't the greatest one.
func TestNoteOfNoWrites(t *testing.T) {
	m := made(t, 3, 4)
	note(t, m, 6, 1)
	for _, l := range [][]api.Write{nil, {}, make([]api.Write, 0, 5)} {
		for _, n := range []int{6, 7, 9, 1 << 40} {
			want(t, "no writes", m.Note(n, l...), api.OK)
			wantMarks(t, "no writes", m, 4, 6, 4)
		}
		for _, n := range []int{0, 4, 5} {
			want(t, "no writes, below", m.Note(n, l...), api.ErrTurn)
		}
		for _, n := range ends() {
			want(t, "no writes, no commit", m.Note(n, l...), api.ErrArg)
		}
	}
	want(t, "none at all", m.Note(8), api.OK)
	note(t, m, 7, 2)
	wantMarks(t, "one write behind no writes", m, 4, 6, 7)
}

func TestNoteOfNoCommit(t *testing.T) {
	for _, blocks := range []int{1, 3, 64} {
		m := made(t, blocks, 0)
		note(t, m, 5, 0)
		numbers := slices.Repeat([]int{0}, blocks)
		numbers[0] = 5
		for _, n := range ends() {
			wantNoNote(t, "right writes", m, n, api.ErrArg, blocks-1, 0)
			for _, k := range noBlocks(blocks) {
				wantNoNote(t, "wrong writes too", m, n, api.ErrArg, k)
			}
			wantMarks(t, "refused", m, numbers...)
		}
	}
}

func TestNoteOfNoTurn(t *testing.T) {
	m := made(t, 3, 10)
	note(t, m, 20, 1)
	for _, n := range []int{0, 1, 9, 10, 11, 19} {
		wantNoNote(t, "a right write", m, n, api.ErrTurn, 0)
		wantNoNote(t, "the greatest one's block", m, n, api.ErrTurn, 1)
		for _, k := range noBlocks(3) {
			wantNoNote(t, "no block either", m, n, api.ErrTurn, k)
			wantNoNote(t, "no block either, behind a right one", m, n, api.ErrTurn, 2, k)
		}
		wantMarks(t, "refused", m, 10, 20, 10)
	}
}

// A write of no block at each place among right ones: no block has the number.
func TestNoteOfNoBlock(t *testing.T) {
	for _, blocks := range []int{1, 2, 5, 63, 64} {
		m, numbers := made(t, blocks, 10), slices.Repeat([]int{10}, blocks)
		note(t, m, 12, blocks/2)
		numbers[blocks/2] = 12
		right := []int{0, blocks - 1, blocks / 2, 0}
		for _, k := range noBlocks(blocks) {
			for _, n := range []int{12, 13, 1 << 40} {
				wantNoNote(t, "alone", m, n, api.ErrBlock, k)
				for at := range len(right) + 1 {
					wantNoNote(t, "among right ones", m, n, api.ErrBlock, slices.Insert(slices.Clone(right), at, k)...)
				}
			}
			wantMarks(t, fmt.Sprintf("%d blocks, refused of %d", blocks, k), m, numbers...)
		}
		note(t, m, 12, right...)
		numbers[0], numbers[blocks-1] = 12, 12
		wantMarks(t, "refused ones don't count", m, numbers...)
	}
}

// What a refused Note asked doesn't bind those behind it.
func TestNoteBehindRefusedOnes(t *testing.T) {
	m := made(t, 4, 2)
	wantNoNote(t, "no block", m, 1<<40, api.ErrBlock, 0, 4)
	wantNoNote(t, "no commit", m, 1<<40+1, api.ErrArg, 0)
	wantNoNote(t, "no turn", m, 1, api.ErrTurn, 0)
	wantMarks(t, "all refused", m, 2, 2, 2, 2)
	note(t, m, 2, 1)
	note(t, m, 3, 3)
	wantMarks(t, "and two that go", m, 2, 2, 2, 3)
}

// What is written is nothing to marks: bytes of any length go.
func TestNoteOfAnyBytes(t *testing.T) {
	m := made(t, 2, 0)
	n := 0
	for _, b := range [][]byte{nil, {}, {1}, make([]byte, 63), make([]byte, 64), make([]byte, 65), make([]byte, 1<<20), make([]byte, 0, 64)} {
		n++
		want(t, fmt.Sprintf("%d bytes", len(b)), m.Note(n, api.Write{Block: 1, B: b}), api.OK)
		wantMarks(t, fmt.Sprintf("%d bytes", len(b)), m, 0, n)
		want(t, "no block", m.Note(n, api.Write{Block: 2, B: b}), api.ErrBlock)
	}
}

func TestNoteOfManyWrites(t *testing.T) {
	m := made(t, 64, 0)
	var l []int
	for i := range 5000 {
		l = append(l, i*29%63)
	}
	note(t, m, 3, l...)
	wantMarks(t, "all but the last", m, append(slices.Repeat([]int{3}, 63), 0)...)
	wantNoNote(t, "and the last one wrong", m, 4, api.ErrBlock, append(l, 64)...)
	wantMarks(t, "refused", m, append(slices.Repeat([]int{3}, 63), 0)...)
}

// P12.1: Since, At, Most

func TestSince(t *testing.T) {
	m := made(t, 6, 10)
	note(t, m, 12, 5)
	note(t, m, 15, 3, 0)
	note(t, m, 1<<40, 2)
	for _, n := range append(ends(), 0, 9) {
		if n < 10 {
			wantSince(t, "below all", m, n, 0, 1, 2, 3, 4, 5)
		}
	}
	wantSince(t, "at the least", m, 10, 0, 2, 3, 5)
	wantSince(t, "between", m, 11, 0, 2, 3, 5)
	wantSince(t, "at one", m, 12, 0, 2, 3)
	wantSince(t, "just below one", m, 14, 0, 2, 3)
	wantSince(t, "at the next", m, 15, 2)
	wantSince(t, "just below the greatest", m, 1<<40-1, 2)
	for _, n := range append(ends(), 1<<40) {
		if n >= 1<<40 {
			wantSince(t, "at the greatest, or above", m, n)
		}
	}
}

func TestSinceRises(t *testing.T) {
	m := made(t, 64, 0)
	for i := range 64 {
		note(t, m, i+1, i*27%64) // each of them, as 27 is odd
		l := m.Since(0)
		if len(l) != i+1 || !slices.IsSorted(l) {
			t.Fatalf("behind %d commits: %v", i+1, l)
		}
	}
	for n := range 65 {
		var wanted []int
		for i := n; i < 64; i++ {
			wanted = append(wanted, i*27%64)
		}
		slices.Sort(wanted)
		wantSince(t, "all were noted", m, n, wanted...)
	}
}

func TestAtOfNoBlock(t *testing.T) {
	for _, blocks := range []int{1, 2, 5, 63, 64} {
		m := made(t, blocks, 9)
		for range 2 {
			for _, k := range noBlocks(blocks) {
				want(t, fmt.Sprintf("%d blocks: At(%d)", blocks, k), m.At(k), -1)
			}
			note(t, m, 10, 0, blocks-1)
			want(t, "the first one", m.At(0), 10)
			want(t, "the last one", m.At(blocks-1), 10)
		}
	}
}

func TestMost(t *testing.T) {
	m := made(t, 3, 4)
	want(t, "behind New", m.Most(), 4)
	note(t, m, 4, 2)
	want(t, "the same number", m.Most(), 4)
	note(t, m, 9, 1)
	want(t, "one block has it", m.Most(), 9)
	note(t, m, 11, 1)
	want(t, "the same block", m.Most(), 11)
	note(t, m, 12, 0, 1, 2)
	want(t, "all have it", m.Most(), 12)
	m.Note(15, writes(3)...)
	m.Note(1 << 41)
	m.Note(0)
	want(t, "behind refused ones", m.Most(), 12)
	note(t, m, 1<<40, 0)
	want(t, "the greatest of all", m.Most(), 1<<40)
}

func TestAskingChangesNothing(t *testing.T) {
	m := made(t, 3, 4)
	note(t, m, 9, 1)
	for range 3 {
		for _, n := range append(ends(), 0, 4, 8, 9, 10) {
			m.Since(n)
			m.At(n)
		}
		m.Most()
		m.Clone()
		wantMarks(t, "asked", m, 4, 9, 4)
	}
}

// P12.1: Clone

func TestClone(t *testing.T) {
	m := made(t, 3, 5)
	early := m.Clone()
	wantMarks(t, "a clone of new ones", early, 5, 5, 5)
	note(t, m, 7, 1)
	c := m.Clone()
	wantMarks(t, "a clone", c, 5, 7, 5)
	note(t, m, 8, 0)
	wantMarks(t, "noted on the one", m, 8, 7, 5)
	wantMarks(t, "not on its clone", c, 5, 7, 5)
	note(t, c, 7, 2)
	note(t, c, 9, 1)
	wantMarks(t, "noted on the clone", c, 5, 9, 7)
	wantMarks(t, "not on the one", m, 8, 7, 5)
	wantNoNote(t, "the clone's turn", c, 8, api.ErrTurn, 0)
	wantNoNote(t, "the clone's blocks", c, 9, api.ErrBlock, 3)
	wantNoNote(t, "the clone's numbers", c, 1<<40+1, api.ErrArg, 0)
	note(t, m, 8, 2)
	wantMarks(t, "the one's turn", m, 8, 7, 8)
	note(t, early, 5, 0)
	note(t, early, 6, 2)
	wantMarks(t, "the early one's turn", early, 5, 5, 6)
}

func TestCloneOfEachSize(t *testing.T) {
	for blocks := 1; blocks <= 64; blocks++ {
		m, numbers := made(t, blocks, 1), slices.Repeat([]int{1}, blocks)
		c := m.Clone()
		for k := range blocks {
			note(t, m, 2+k, k)
			next := c.Clone()
			note(t, next, 2+k, k)
			wantMarks(t, "a clone's clone was noted on", c, numbers...)
			c = next
			numbers[k] = 2 + k
			wantMarks(t, "a clone's clone", c, numbers...)
			wantMarks(t, "the first one", m, numbers...)
		}
	}
}

// P12.1: a nil one

func TestNil(t *testing.T) {
	var m *marks.Marks
	for _, n := range append(ends(), 0, 1, 1<<40) {
		want(t, "Note", m.Note(n), api.ErrNil)
		want(t, "Note", m.Note(n, writes(0)...), api.ErrNil)
		want(t, "Note", m.Note(n, writes(0, -1, 64)...), api.ErrNil)
		want(t, "Since", len(m.Since(n)), 0)
		want(t, "At", m.At(n), -1)
	}
	want(t, "Most", m.Most(), -1)
	want(t, "Clone", m.Clone(), nil)
}

// The chapter's example.
func TestExample(t *testing.T) {
	m := made(t, 3, 0)
	note(t, m, 1, 2)
	wantSince(t, "the example", m, 0, 2)
}
