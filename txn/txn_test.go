package txn_test

import (
	"bytes"
	"fmt"
	"math"
	"slices"
	"testing"

	"breviary/api"
	"breviary/txn"
)

func want[T comparable](t *testing.T, what string, got, wanted T) {
	t.Helper()
	if got != wanted {
		t.Errorf("%s: %v, wanted %v", what, got, wanted)
	}
}

func made(t *testing.T, blocks int) *txn.Book {
	t.Helper()
	b, e := txn.New(blocks)
	if e != api.OK || b == nil {
		t.Fatalf("New(%d): %v, %v", blocks, b, e)
	}
	return b
}

// block of 64 bytes, no two of them alike, that n makes.
func block(n int) []byte {
	b := make([]byte, api.Sector)
	for i := range b {
		b[i] = byte(n + 3*i)
	}
	return b
}

func write(k, n int) api.Write {
	return api.Write{Block: k, B: block(n)}
}

func begin(t *testing.T, b *txn.Book, wanted int) int {
	t.Helper()
	h, e := b.Begin()
	want(t, "Begin", e, api.OK)
	want(t, "Begin's handle", h, wanted)
	return h
}

func wantNoBegin(t *testing.T, what string, b *txn.Book) {
	t.Helper()
	h, e := b.Begin()
	want(t, what+": Begin", e, api.ErrMany)
	want(t, what+": Begin's handle", h, 0)
}

// put what n makes.
func put(t *testing.T, b *txn.Book, h, k, n int) {
	t.Helper()
	want(t, fmt.Sprintf("Write(%d, %d)", h, k), b.Write(h, k, block(n)), api.OK)
}

func end(t *testing.T, b *txn.Book, h int) {
	t.Helper()
	want(t, fmt.Sprintf("End(%d)", h), b.End(h), api.OK)
}

func wantOpen(t *testing.T, what string, b *txn.Book, wanted ...int) {
	t.Helper()
	if l := b.Open(); !slices.Equal(l, wanted) {
		t.Errorf("%s: Open: %v, wanted %v", what, l, wanted)
	}
}

// wantNone: of such a handle every call tells ErrHandle, whatever else is wrong.
func wantNone(t *testing.T, what string, b *txn.Book, h int) {
	t.Helper()
	what = fmt.Sprintf("%s: of %d", what, h)
	for _, k := range []int{0, -1, 64, math.MinInt, math.MaxInt} {
		for _, data := range [][]byte{nil, block(1), block(1)[:63]} {
			want(t, what+": Write", b.Write(h, k, data), api.ErrHandle)
		}
		data, ok, e := b.Read(h, k)
		want(t, what+": Read", e, api.ErrHandle)
		want(t, what+": is it written", ok, false)
		want(t, what+": bytes read", len(data), 0)
	}
	l, e := b.Writes(h)
	want(t, what+": Writes", e, api.ErrHandle)
	want(t, what+": how many writes", len(l), 0)
	want(t, what+": End", b.End(h), api.ErrHandle)
}

func wantRead(t *testing.T, what string, b *txn.Book, h, k int, wanted []byte) {
	t.Helper()
	data, ok, e := b.Read(h, k)
	want(t, what+": Read", e, api.OK)
	want(t, what+": is it written", ok, wanted != nil)
	if !bytes.Equal(data, wanted) {
		t.Errorf("%s: Read(%d, %d): %v, wanted %v", what, h, k, data, wanted)
	}
}

// wantWrites of one that is open, which has so many blocks; each block is read too.
func wantWrites(t *testing.T, what string, b *txn.Book, blocks, h int, wanted ...api.Write) {
	t.Helper()
	what = fmt.Sprintf("%s: of %d", what, h)
	l, e := b.Writes(h)
	want(t, what+": Writes", e, api.OK)
	same := func(a, b api.Write) bool { return a.Block == b.Block && bytes.Equal(a.B, b.B) }
	if !slices.EqualFunc(l, wanted, same) {
		t.Errorf("%s: Writes: %v, wanted %v", what, l, wanted)
	}
	for k := range blocks {
		at := slices.IndexFunc(wanted, func(w api.Write) bool { return w.Block == k })
		if at < 0 {
			wantRead(t, what, b, h, k, nil)
		} else {
			wantRead(t, what, b, h, k, wanted[at].B)
		}
	}
}

// ends of the numbers, and what wraps round to a number in range, if it is cut or added to: none is from 0 to 64.
func ends() []int {
	return []int{
		math.MinInt, math.MinInt + 1, math.MinInt + 2, math.MinInt + 64, -1 << 40, math.MinInt32 - 1, math.MinInt32,
		-1<<32 + 1, -1 << 16, -256, -255, -65, -64, -63, -2, -1,
		65, 66, 128, 256, 257, 1 << 16, 1<<16 + 1, math.MaxInt32, 1 << 32, 1<<32 + 1, 1 << 40, 1 << 62, math.MaxInt - 1, math.MaxInt,
	}
}

// P13.1: New

func TestNew(t *testing.T) {
	for blocks := 1; blocks <= 64; blocks++ {
		b := made(t, blocks)
		wantOpen(t, "new", b)
		wantNone(t, "new", b, 0)
		wantNone(t, "new", b, 1)
		h := begin(t, b, 1)
		put(t, b, h, 0, 1)
		put(t, b, h, blocks-1, 2)
		want(t, "one beyond", b.Write(h, blocks, block(3)), api.ErrBlock)
	}
}

func TestNewOfWrongNumbers(t *testing.T) {
	for _, blocks := range append(ends(), 0) {
		if b, e := txn.New(blocks); e != api.ErrArg || b != nil {
			t.Errorf("New(%d): %v, %v, wanted nil, %v", blocks, b, e, api.ErrArg)
		}
	}
}

// P13.1: Begin

func TestTheChaptersExample(t *testing.T) {
	b := made(t, 4)
	begin(t, b, 1)
	begin(t, b, 2)
	end(t, b, 1)
	begin(t, b, 3)
	wantOpen(t, "the example", b, 2, 3)
}

func full(t *testing.T) *txn.Book {
	t.Helper()
	b := made(t, 3)
	for h := 1; h <= 8; h++ {
		begin(t, b, h)
	}
	return b
}

func TestBeginTillThereAreMany(t *testing.T) {
	b := made(t, 3)
	var open []int
	for h := 1; h <= 8; h++ {
		wantOpen(t, "ahead of Begin", b, open...)
		open = append(open, begin(t, b, h))
		wantOpen(t, "behind Begin", b, open...)
		wantNone(t, "still to come", b, h+1)
	}
	for range 3 {
		wantNoBegin(t, "eight", b)
		wantOpen(t, "refused", b, open...)
		wantNone(t, "refused", b, 9)
	}
}

// Whichever of the eight ends, one more may begin, and no handle is told twice, those that ended last neither.
func TestBeginWhereOneOfEightHasEnded(t *testing.T) {
	for gone := 1; gone <= 8; gone++ {
		b, open := full(t), []int{1, 2, 3, 4, 5, 6, 7, 8, 9}
		wantNoBegin(t, "eight", b)
		end(t, b, gone)
		begin(t, b, 9)
		wantOpen(t, "one less and one more", b, slices.Delete(open, gone-1, gone)...)
		wantNoBegin(t, "eight again", b)
		wantNone(t, "ended", b, gone)
		end(t, b, 9)
		begin(t, b, 10)
		wantNone(t, "ended", b, 9)
	}
}

func TestHandlesGoOn(t *testing.T) {
	b := made(t, 3)
	for h := 1; h < 1000; h++ {
		begin(t, b, h)
		wantOpen(t, "one", b, h)
		end(t, b, h)
		wantOpen(t, "none", b)
	}
	for h := 1000; h < 2000; h++ {
		begin(t, b, h)
		b.Clear()
	}
	for h := 2000; h < 2008; h++ {
		begin(t, b, h)
	}
	wantNoBegin(t, "eight", b)
	b.Clear()
	begin(t, b, 2008)
}

// P13.1: Open, End, Clear

func TestOpenIsRising(t *testing.T) {
	for gone := range 256 {
		b := full(t)
		var open []int
		for h := 8; h >= 1; h-- {
			if gone>>(h-1)&1 == 1 {
				end(t, b, h)
			} else {
				open = append(open, h)
			}
		}
		slices.Reverse(open)
		wantOpen(t, "some ended", b, open...)
		for h := 1; h <= 9; h++ {
			if !slices.Contains(open, h) {
				wantNone(t, "ended, or still to come", b, h)
			} else {
				wantWrites(t, "still open", b, 3, h)
			}
		}
	}
}

func TestEndOfOneThatIsNotOpen(t *testing.T) {
	b := made(t, 3)
	for h := 1; h <= 5; h++ {
		begin(t, b, h)
		put(t, b, h, 1, h)
	}
	end(t, b, 3)
	for _, h := range append(ends(), 0, 3, 6, 7, 8) {
		wantNone(t, "not open", b, h)
	}
	wantOpen(t, "behind them", b, 1, 2, 4, 5)
	for _, h := range []int{1, 2, 4, 5} {
		wantWrites(t, "behind them", b, 3, h, write(1, h))
	}
	begin(t, b, 6)
}

func TestEndTakesWhatWasWritten(t *testing.T) {
	b := made(t, 3)
	for h := 1; h < 20; h++ {
		begin(t, b, h)
		wantWrites(t, "fresh", b, 3, h)
		put(t, b, h, h%3, h)
		wantWrites(t, "one", b, 3, h, write(h%3, h))
		end(t, b, h)
		wantNone(t, "ended", b, h)
	}
}

func TestClear(t *testing.T) {
	for n := range 9 {
		b := made(t, 3)
		for h := 1; h <= n; h++ {
			begin(t, b, h)
			put(t, b, h, 2, h)
		}
		for range 2 {
			b.Clear()
			wantOpen(t, "cleared", b)
			for h := range n + 2 {
				wantNone(t, "cleared", b, h)
			}
		}
		for h := n + 1; h <= n+8; h++ {
			begin(t, b, h)
			wantWrites(t, "behind Clear", b, 3, h)
		}
		wantNoBegin(t, "eight", b)
	}
}

// P13.2

func TestWriteOfEachBlock(t *testing.T) {
	for _, blocks := range []int{1, 2, 5, 63, 64} {
		b := made(t, blocks)
		h := begin(t, b, 1)
		var l []api.Write
		for i := range blocks {
			k := (i*29 + 11) % blocks // each of them, as 29 has no part in common with any of these sizes
			put(t, b, h, k, k)
			at, _ := slices.BinarySearchFunc(l, k, func(w api.Write, k int) int { return w.Block - k })
			l = slices.Insert(l, at, write(k, k))
			wantWrites(t, fmt.Sprintf("%d blocks, %d written", blocks, i+1), b, blocks, h, l...)
		}
	}
}

func TestWriteOverWhatItWrote(t *testing.T) {
	b := made(t, 4)
	h := begin(t, b, 1)
	put(t, b, h, 2, 1)
	put(t, b, h, 2, 2)
	wantWrites(t, "twice", b, 4, h, write(2, 2))
	put(t, b, h, 0, 3)
	put(t, b, h, 3, 4)
	put(t, b, h, 2, 5)
	wantWrites(t, "three times", b, 4, h, write(0, 3), write(2, 5), write(3, 4))
	put(t, b, h, 0, 6)
	put(t, b, h, 3, 4)
	wantWrites(t, "the least and the greatest, which is as it was", b, 4, h, write(0, 6), write(2, 5), write(3, 4))
	want(t, "noughts", b.Write(h, 2, make([]byte, 64)), api.OK)
	wantWrites(t, "noughts are written too", b, 4, h, write(0, 6), api.Write{Block: 2, B: make([]byte, 64)}, write(3, 4))
}

// All runs of three writes over three blocks.
func TestTheLastWriteOfEachBlock(t *testing.T) {
	for runs := range 27 {
		b := made(t, 3)
		h := begin(t, b, 1)
		var last [3]int
		for i, k := range []int{runs % 3, runs / 3 % 3, runs / 9} {
			put(t, b, h, k, i+1)
			last[k] = i + 1
			var l []api.Write
			for k, n := range last {
				if n > 0 {
					l = append(l, write(k, n))
				}
			}
			wantWrites(t, "a run", b, 3, h, l...)
		}
	}
}

func wantNoWrite(t *testing.T, b *txn.Book, h, k int, data []byte, wanted api.Errno) {
	t.Helper()
	want(t, fmt.Sprintf("Write(%d, %d) of %d bytes", h, k, len(data)), b.Write(h, k, data), wanted)
}

// The block is told ahead of the length, and what is refused changes nothing of what is there.
func TestWrongWrites(t *testing.T) {
	long := slices.Concat(block(7), block(8))
	lengths := [][]byte{nil, {}, long[:1], long[:62], long[:63], long[:65], long[:127], long}
	for _, blocks := range []int{1, 3, 64} {
		b := made(t, blocks)
		h := begin(t, b, 1)
		begin(t, b, 2)
		for _, l := range [][]api.Write{nil, {write(0, 5)}} {
			for _, w := range l {
				put(t, b, h, w.Block, 5)
			}
			for _, k := range append(ends(), blocks, blocks+1) {
				for _, data := range append(lengths, block(9)) {
					wantNoWrite(t, b, h, k, data, api.ErrBlock)
				}
			}
			for _, data := range lengths {
				wantNoWrite(t, b, h, 0, data, api.ErrSize)
				wantNoWrite(t, b, h, blocks-1, data, api.ErrSize)
			}
			wantWrites(t, "refused", b, blocks, h, l...)
			wantWrites(t, "refused, another one", b, blocks, 2)
		}
	}
}

func TestReadOfNoBlock(t *testing.T) {
	for _, blocks := range []int{1, 3, 64} {
		b := made(t, blocks)
		h := begin(t, b, 1)
		put(t, b, h, blocks-1, 1)
		for _, k := range append(ends(), blocks, blocks+1) {
			data, ok, e := b.Read(h, k)
			want(t, fmt.Sprintf("Read(%d)", k), e, api.ErrBlock)
			want(t, "is it written", ok, false)
			want(t, "bytes read", len(data), 0)
		}
		wantWrites(t, "behind them", b, blocks, h, write(blocks-1, 1))
	}
}

// A nil book, and one that nobody made, of which nothing is promised but that no call panics.

func TestNil(t *testing.T) {
	var b *txn.Book
	h, e := b.Begin()
	want(t, "Begin", e, api.ErrNil)
	want(t, "Begin's handle", h, 0)
	for _, h := range append(ends(), 0, 1) {
		for _, k := range []int{-1, 0, 64} {
			want(t, "Write", b.Write(h, k, block(1)), api.ErrNil)
			want(t, "Write of none", b.Write(h, k, nil), api.ErrNil)
			data, ok, e := b.Read(h, k)
			want(t, "Read", e, api.ErrNil)
			want(t, "is it written", ok, false)
			want(t, "bytes read", len(data), 0)
		}
		l, e := b.Writes(h)
		want(t, "Writes", e, api.ErrNil)
		want(t, "how many writes", len(l), 0)
		want(t, "End", b.End(h), api.ErrNil)
	}
	b.Clear()
	wantOpen(t, "nil", b)
}

func TestOneThatNobodyMade(t *testing.T) {
	var b txn.Book
	for range 10 {
		h, _ := b.Begin()
		b.Write(h, 0, block(1))
		b.Read(h, 0)
		b.Writes(h)
		b.Open()
		b.End(h)
	}
	b.Clear()
	h, _ := b.Begin()
	b.Write(h, 0, block(1))
	b.Read(h, 0)
	b.Writes(h)
}
