package image_test

import (
	"bytes"
	"fmt"
	"math"
	"slices"
	"testing"

	"breviary/api"
	"breviary/image"
)

func want[T comparable](t *testing.T, what string, got, wanted T) {
	t.Helper()
	if got != wanted {
		t.Errorf("%s: %v, wanted %v", what, got, wanted)
	}
}

// block of 64 bytes, each of them n.
func block(n byte) []byte {
	return bytes.Repeat([]byte{n}, api.Sector)
}

// blocks one behind the other, each of 64 times its number.
func blocks(l ...byte) []byte {
	var b []byte
	for _, n := range l {
		b = append(b, block(n)...)
	}
	return b
}

// odd bytes: no two that are near to each other are alike, and no two blocks are.
func odd(length int) []byte {
	b := make([]byte, length)
	for i := range b {
		b[i] = byte(i*7 + i/api.Sector*31 + 5)
	}
	return b
}

func made(t *testing.T, b []byte) *image.Disk {
	t.Helper()
	d, e := image.From(b)
	if e != api.OK || d == nil {
		t.Fatalf("From of %d bytes: %v, %v", len(b), d, e)
	}
	return d
}

func written(t *testing.T, d *image.Disk, l ...api.Write) *image.Disk {
	t.Helper()
	other, e := d.With(l...)
	if e != api.OK || other == nil {
		t.Fatalf("With %v: %v, %v", l, other, e)
	}
	return other
}

// wantDisk asks all calls of a disk for its bytes.
func wantDisk(t *testing.T, what string, d *image.Disk, wanted []byte) {
	t.Helper()
	n := len(wanted) / api.Sector
	want(t, what+": Blocks", d.Blocks(), n)
	if got := d.Bytes(); !bytes.Equal(got, wanted) {
		t.Errorf("%s: Bytes: %v, wanted %v", what, got, wanted)
	}
	for k := range n {
		if b, e := d.Get(k); e != api.OK || !bytes.Equal(b, wanted[64*k:64*k+64]) {
			t.Errorf("%s: Get(%d): %v, %v", what, k, b, e)
		}
	}
	next := 0
	for k, b := range d.All() {
		if k != next || !bytes.Equal(b, wanted[64*k:64*k+64]) {
			t.Fatalf("%s: All: %d, %v, wanted the block %d", what, k, b, next)
		}
		next++
	}
	want(t, what+": All", next, n)
}

// P10.1

func TestNew(t *testing.T) {
	for n := 1; n <= 64; n++ {
		d, e := image.New(n)
		if e != api.OK || d == nil {
			t.Fatalf("New(%d): %v, %v", n, d, e)
		}
		wantDisk(t, fmt.Sprintf("New(%d)", n), d, make([]byte, 64*n))
	}
	for _, n := range []int{math.MinInt, math.MinInt + 1, -64, -2, -1, 0, 65, 66, 128, 1 << 32, 1<<58 + 1, math.MaxInt - 1, math.MaxInt} {
		if d, e := image.New(n); d != nil || e != api.ErrArg {
			t.Errorf("New(%d): %v, %v", n, d, e)
		}
	}
}

func TestFrom(t *testing.T) {
	for n := range 65*64 + 200 {
		b := odd(n)
		if n%64 == 0 && n >= 64 && n <= 64*64 {
			wantDisk(t, fmt.Sprintf("From of %d bytes", n), made(t, b), b)
		} else if d, e := image.From(b); d != nil || e != api.ErrArg {
			t.Errorf("From of %d bytes: %v, %v", n, d, e)
		}
	}
	for _, n := range []int{64 * 65, 64 * 66, 64 * 128, 1 << 20, 64*64 + 1} {
		if d, e := image.From(make([]byte, n)); d != nil || e != api.ErrArg {
			t.Errorf("From of %d bytes: %v, %v", n, d, e)
		}
	}
	if d, e := image.From(nil); d != nil || e != api.ErrArg {
		t.Errorf("From of nil: %v, %v", d, e)
	}
	if d, e := image.From(make([]byte, 0, 64)); d != nil || e != api.ErrArg {
		t.Errorf("From of no bytes with room: %v, %v", d, e)
	}
}

func TestFromTakesEachByte(t *testing.T) {
	for i := range 3 * 64 {
		b := make([]byte, 3*64)
		b[i] = 1
		wantDisk(t, fmt.Sprintf("byte %d", i), made(t, b), b)
	}
}

func TestGet(t *testing.T) {
	for _, n := range []int{1, 2, 3, 63, 64} {
		d := made(t, odd(64*n))
		for _, k := range []int{math.MinInt, math.MinInt + 1, -1 << 32, -64, -n, -2, -1, n, n + 1, 64, 65, 1 << 32, 1 << 58, math.MaxInt - 1, math.MaxInt} {
			if b, e := d.Get(k); len(b) != 0 || e != api.ErrBlock {
				t.Errorf("Get(%d) of %d blocks: %v, %v", k, n, b, e)
			}
		}
		if b, e := d.Get(0); e != api.OK || !bytes.Equal(b, odd(64)) {
			t.Errorf("Get(0): %v, %v", b, e)
		}
		if b, e := d.Get(n - 1); e != api.OK || !bytes.Equal(b, odd(64 * n)[64*n-64:]) {
			t.Errorf("Get(%d): %v, %v", n-1, b, e)
		}
	}
}

func TestAll(t *testing.T) {
	b := odd(5 * 64)
	d := made(t, b)
	all := d.All()
	for stop := range 7 { // the same iterator, left behind each step
		var seen []int
		for k, got := range all {
			if len(seen) == stop {
				break
			}
			seen = append(seen, k)
			if !bytes.Equal(got, b[64*k:64*k+64]) {
				t.Errorf("block %d: %v", k, got)
			}
		}
		if wanted := []int{0, 1, 2, 3, 4}[:min(stop, 5)]; !slices.Equal(seen, wanted) {
			t.Errorf("left behind %d: %v", stop, seen)
		}
	}
	var pairs []int
	for k := range all {
		for n := range all {
			if n > k {
				break
			}
			pairs = append(pairs, 10*k+n)
		}
	}
	if !slices.Equal(pairs, []int{0, 10, 11, 20, 21, 22, 30, 31, 32, 33, 40, 41, 42, 43, 44}) {
		t.Errorf("within itself: %v", pairs)
	}
}

func TestAllEndsWhenItIsTold(t *testing.T) {
	d := made(t, odd(5*64))
	for stop := 1; stop <= 5; stop++ {
		calls := 0
		d.All()(func(int, []byte) bool {
			calls++
			return calls < stop
		})
		want(t, "calls", calls, stop)
	}
}

// P10.2

func TestWith(t *testing.T) {
	d := made(t, blocks(1, 2, 3, 4))
	for _, x := range []struct {
		l      []api.Write
		wanted []byte
	}{
		{nil, blocks(1, 2, 3, 4)},
		{[]api.Write{}, blocks(1, 2, 3, 4)},
		{[]api.Write{{Block: 0, B: block(9)}}, blocks(9, 2, 3, 4)},
		{[]api.Write{{Block: 2, B: block(9)}}, blocks(1, 2, 9, 4)},
		{[]api.Write{{Block: 3, B: block(9)}}, blocks(1, 2, 3, 9)},
		{[]api.Write{{Block: 3, B: block(4)}}, blocks(1, 2, 3, 4)},
		{[]api.Write{{Block: 1, B: block(0)}}, blocks(1, 0, 3, 4)},
		{[]api.Write{{Block: 3, B: block(7)}, {Block: 0, B: block(8)}}, blocks(8, 2, 3, 7)},
		{[]api.Write{{Block: 2, B: block(7)}, {Block: 2, B: block(8)}}, blocks(1, 2, 8, 4)},
		{[]api.Write{{Block: 2, B: block(8)}, {Block: 2, B: block(7)}}, blocks(1, 2, 7, 4)},
		{[]api.Write{{Block: 2, B: block(8)}, {Block: 1, B: block(5)}, {Block: 2, B: block(3)}}, blocks(1, 5, 3, 4)},
		{[]api.Write{{Block: 1, B: block(6)}, {Block: 1, B: block(7)}, {Block: 0, B: block(1)}, {Block: 1, B: block(2)}}, blocks(1, 2, 3, 4)},
		{[]api.Write{{Block: 0, B: odd(64)}, {Block: 1, B: odd(64)}, {Block: 2, B: odd(64)}, {Block: 3, B: odd(64)}}, bytes.Repeat(odd(64), 4)},
	} {
		wantDisk(t, fmt.Sprint(x.l), written(t, d, x.l...), x.wanted)
		wantDisk(t, "the elder one", d, blocks(1, 2, 3, 4))
	}
}

func TestWithEachByteOfABlock(t *testing.T) {
	d := made(t, odd(3*64))
	for i := range 64 {
		b := odd(3 * 64)
		b[64+i] ^= 0x80
		wantDisk(t, fmt.Sprintf("byte %d", i), written(t, d, api.Write{Block: 1, B: b[64:128]}), b)
	}
}

func TestWithManyWrites(t *testing.T) {
	d := made(t, make([]byte, 64*64))
	var l []api.Write
	wanted := make([]byte, 64*64)
	for i := range 2000 {
		k := i * 37 % 64
		l = append(l, api.Write{Block: k, B: block(byte(i))})
		copy(wanted[64*k:], block(byte(i)))
	}
	wantDisk(t, "2000 writes", written(t, d, l...), wanted)
}

func TestWithWrongWrites(t *testing.T) {
	right := api.Write{Block: 1, B: block(9)}
	short := api.Write{Block: 1, B: odd(63)}
	beyond := api.Write{Block: 3, B: block(9)}
	for _, x := range []struct {
		what   string
		l      []api.Write
		wanted api.Errno
	}{
		{"one beyond", []api.Write{beyond}, api.ErrBlock},
		{"below", []api.Write{{Block: -1, B: block(9)}}, api.ErrBlock},
		{"within the limit alone", []api.Write{{Block: 63, B: block(9)}}, api.ErrBlock},
		{"the limit", []api.Write{{Block: 64, B: block(9)}}, api.ErrBlock},
		{"greatest", []api.Write{{Block: math.MaxInt, B: block(9)}}, api.ErrBlock},
		{"least", []api.Write{{Block: math.MinInt, B: block(9)}}, api.ErrBlock},
		{"a number that wraps to 1", []api.Write{{Block: 1<<32 + 1, B: block(9)}}, api.ErrBlock},
		{"63 bytes", []api.Write{short}, api.ErrSize},
		{"65 bytes", []api.Write{{Block: 1, B: odd(65)}}, api.ErrSize},
		{"128 bytes", []api.Write{{Block: 1, B: odd(128)}}, api.ErrSize},
		{"one byte", []api.Write{{Block: 1, B: odd(1)}}, api.ErrSize},
		{"no bytes", []api.Write{{Block: 1, B: []byte{}}}, api.ErrSize},
		{"no bytes with room", []api.Write{{Block: 1, B: make([]byte, 0, 64)}}, api.ErrSize},
		{"nil bytes", []api.Write{{Block: 1}}, api.ErrSize},
		{"both at once", []api.Write{{Block: 3, B: odd(63)}}, api.ErrBlock},
		{"both at once, below", []api.Write{{Block: -1}}, api.ErrBlock},
		{"behind a right one", []api.Write{right, short}, api.ErrSize},
		{"ahead of a right one", []api.Write{short, right}, api.ErrSize},
		{"between right ones", []api.Write{right, beyond, right}, api.ErrBlock},
		{"behind many right ones", append(slices.Repeat([]api.Write{right}, 100), beyond), api.ErrBlock},
		{"short, then beyond", []api.Write{short, beyond}, api.ErrSize},
		{"beyond, then short", []api.Write{beyond, short}, api.ErrBlock},
		{"right, short, beyond", []api.Write{right, short, beyond}, api.ErrSize},
		{"right, beyond, short", []api.Write{right, beyond, short}, api.ErrBlock},
	} {
		d := made(t, blocks(1, 2, 3))
		if got, e := d.With(x.l...); got != nil || e != x.wanted {
			t.Errorf("%s: %v, %v, wanted %v", x.what, got, e, x.wanted)
		}
		wantDisk(t, x.what, d, blocks(1, 2, 3))
	}
}

// wantDiff asks for the difference both ways round.
func wantDiff(t *testing.T, what string, a, b *image.Disk, wanted ...int) {
	t.Helper()
	for range 2 {
		if got := image.Diff(a, b); !slices.Equal(got, wanted) {
			t.Errorf("%s: Diff: %v, wanted %v", what, got, wanted)
		}
		want(t, what+": Same", image.Same(a, b), len(wanted) == 0)
		a, b = b, a
	}
}

// upTo tells the numbers from at on that are below end.
func upTo(at, end int) []int {
	var l []int
	for ; at < end; at++ {
		l = append(l, at)
	}
	return l
}

func TestSameAndDiff(t *testing.T) {
	a := made(t, blocks(1, 2, 3, 4))
	wantDiff(t, "one disk", a, a)
	wantDiff(t, "alike", a, made(t, blocks(1, 2, 3, 4)))
	wantDiff(t, "nothing written", a, written(t, a))
	wantDiff(t, "written as it was", a, written(t, a, api.Write{Block: 2, B: block(3)}))
	wantDiff(t, "written back", a, written(t, written(t, a, api.Write{Block: 2, B: block(9)}), api.Write{Block: 2, B: block(3)}))
	for k := range 4 {
		wantDiff(t, "one block", a, written(t, a, api.Write{Block: k, B: block(9)}), k)
	}
	wantDiff(t, "two", a, written(t, a, api.Write{Block: 3, B: block(9)}, api.Write{Block: 1, B: block(9)}), 1, 3)
	wantDiff(t, "all", a, made(t, blocks(4, 3, 2, 1)), 0, 1, 2, 3)
	wantDiff(t, "the chapter's example", written(t, made(t, make([]byte, 128)), api.Write{Block: 1, B: block(1)}), made(t, make([]byte, 128)), 1)
}

func TestDiffTellsEachByte(t *testing.T) {
	a := made(t, odd(3*64))
	for i := range 3 * 64 {
		for _, bit := range []byte{1, 0x80} {
			b := odd(3 * 64)
			b[i] ^= bit
			wantDiff(t, fmt.Sprintf("byte %d", i), a, made(t, b), i/64)
		}
	}
}

func TestDiffOfEachSubset(t *testing.T) {
	a := made(t, odd(6*64))
	for set := range 64 {
		var l []api.Write
		var wanted []int
		for k := range 6 {
			if set>>k&1 == 1 {
				l = append(l, api.Write{Block: k, B: block(1)})
				wanted = append(wanted, k)
			}
		}
		wantDiff(t, fmt.Sprintf("subset %b", set), a, written(t, a, l...), wanted...)
	}
}

func TestDisksOfUnlikeManyBlocks(t *testing.T) {
	for n := 1; n <= 64; n++ {
		for m := 1; m <= 64; m++ {
			a, b := made(t, odd(64*n)), made(t, odd(64*m))
			wantDiff(t, fmt.Sprintf("%d and %d", n, m), a, b, upTo(min(n, m), max(n, m))...)
		}
	}
	a, b := made(t, blocks(1, 2, 3, 0)), made(t, blocks(1, 9))
	wantDiff(t, "one unlike, two of one alone", a, b, 1, 2, 3)
	wantDiff(t, "noughts of one alone", made(t, make([]byte, 64)), made(t, make([]byte, 192)), 1, 2)
}

func TestSameAndDiffOfNil(t *testing.T) {
	for n := 1; n <= 64; n++ {
		wantDiff(t, "nil", made(t, make([]byte, 64*n)), nil, upTo(0, n)...)
	}
	wantDiff(t, "two nil ones", nil, nil)
}

func TestNil(t *testing.T) {
	var d *image.Disk
	want(t, "Blocks", d.Blocks(), 0)
	want(t, "Bytes", len(d.Bytes()), 0)
	for _, k := range []int{math.MinInt, -1, 0, 1, 64, math.MaxInt} {
		if b, e := d.Get(k); len(b) != 0 || e != api.ErrNil {
			t.Errorf("Get(%d): %v, %v", k, b, e)
		}
	}
	for _, l := range [][]api.Write{nil, {}, {{Block: 0, B: block(1)}}, {{Block: -1}}, {{Block: 0}}} {
		if got, e := d.With(l...); got != nil || e != api.ErrNil {
			t.Errorf("With %v: %v, %v", l, got, e)
		}
	}
	all := d.All()
	for range 2 {
		for k, b := range all {
			t.Errorf("All: %d, %v", k, b)
		}
	}
}
