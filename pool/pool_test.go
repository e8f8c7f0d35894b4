package pool_test

import (
	"bytes"
	"fmt"
	"math"
	"slices"
	"testing"

	"breviary/api"
	"breviary/dev"
	"breviary/pool"
)

func want[T comparable](t *testing.T, what string, got, wanted T) {
	t.Helper()
	if got != wanted {
		t.Errorf("%s: %v, wanted %v", what, got, wanted)
	}
}

// block of 64 bytes, each of them n.
func block(n byte) []byte {
	return bytes.Repeat([]byte{n}, api.Sector)
}

// odd bytes: no two that are near to each other are alike, and no two blocks are.
func odd(length int) []byte {
	b := make([]byte, length)
	for i := range b {
		b[i] = byte(i*7 + i/api.Sector*31 + 5)
	}
	return b
}

// write of a block of which each byte is b.
func write(n int, b byte) api.Write {
	return api.Write{Block: n, B: block(b)}
}

// device whose sectors stay, each with other bytes.
func device(t *testing.T, sectors int) *dev.Dev {
	t.Helper()
	d, e := dev.New(sectors)
	want(t, "a device", e, api.OK)
	want(t, "its sectors", d.Write(0, odd(64*sectors)), api.OK)
	want(t, "they stay", d.Flush(), api.OK)
	return d
}

func sector(n int) []byte {
	return odd(64 * (n + 1))[64*n:]
}

func made(t *testing.T, d *dev.Dev, from, blocks int) *pool.Pool {
	t.Helper()
	p, e := pool.New(d, from, blocks)
	if e != api.OK || p == nil {
		t.Fatalf("New(%d, %d): %v, %v", from, blocks, p, e)
	}
	return p
}

func put(t *testing.T, p *pool.Pool, l ...api.Write) {
	t.Helper()
	want(t, "Put", p.Put(l...), api.OK)
}

func wantGet(t *testing.T, what string, p *pool.Pool, n int, wanted []byte) {
	t.Helper()
	if b, e := p.Get(n); e != api.OK || !bytes.Equal(b, wanted) {
		t.Errorf("%s: Get(%d): %v, %v, wanted %v", what, n, b, e, wanted)
	}
}

// wantNoGet: an error, and no bytes beside it.
func wantNoGet(t *testing.T, what string, p *pool.Pool, n int, wanted api.Errno) {
	t.Helper()
	if b, e := p.Get(n); e != wanted || len(b) != 0 {
		t.Errorf("%s: Get(%d): %v, %v, wanted %v", what, n, b, e, wanted)
	}
}

func wantDirty(t *testing.T, what string, p *pool.Pool, wanted ...int) {
	t.Helper()
	if l := p.Dirty(); !slices.Equal(l, wanted) {
		t.Errorf("%s: Dirty: %v, wanted %v", what, l, wanted)
	}
}

// wantAll asks Get and Image for all blocks of a pool.
func wantAll(t *testing.T, what string, p *pool.Pool, wanted []byte) {
	t.Helper()
	n := len(wanted) / 64
	for k := range n {
		wantGet(t, what, p, k, wanted[64*k:64*k+64])
	}
	wantNoGet(t, what, p, n, api.ErrBlock)
	x, e := p.Image()
	if e != api.OK || x.Blocks() != n || !bytes.Equal(x.Bytes(), wanted) {
		t.Errorf("%s: Image: %v, %v, wanted %v", what, x.Bytes(), e, wanted)
	}
}

// P11.1: New

func wantNoPool(t *testing.T, what string, d *dev.Dev, from, blocks int, wanted api.Errno) {
	t.Helper()
	if p, e := pool.New(d, from, blocks); e != wanted || p != nil {
		t.Errorf("%s: New(%d, %d): %v, %v, wanted %v", what, from, blocks, p, e, wanted)
	}
}

// ends of the numbers, and what wraps round to a number in range, if it is added to or cut.
func ends() []int {
	return []int{
		math.MinInt, math.MinInt + 1, math.MinInt + 63, math.MinInt32 - 1, math.MinInt32, -1 << 32, -4096, -65, -64, -2, -1,
		4097, 1 << 16, math.MaxInt32, math.MaxInt32 + 1, 1 << 32, 1<<32 + 1, math.MaxInt - 4096, math.MaxInt - 64, math.MaxInt - 1, math.MaxInt,
	}
}

func TestNew(t *testing.T) {
	for _, size := range []int{1, 2, 63, 64, 65, 100, 4095, 4096} {
		d := device(t, size)
		calls := d.Calls()
		for _, blocks := range []int{1, 2, 63, 64} {
			for _, from := range []int{0, 1, size - blocks - 1, size - blocks, size - blocks + 1, size - 1, size, size + 1} {
				if from < 0 {
					wantNoPool(t, "ahead of the device", d, from, blocks, api.ErrArg)
				} else if from+blocks > size {
					wantNoPool(t, "beyond the device", d, from, blocks, api.ErrRange)
				} else {
					p := made(t, d, from, blocks)
					wantGet(t, "the first one", p, 0, sector(from))
					wantGet(t, "the last one", p, blocks-1, sector(from+blocks-1))
					wantNoGet(t, "ahead of it", p, -1, api.ErrBlock)
					wantNoGet(t, "behind it", p, blocks, api.ErrBlock)
					wantDirty(t, "nothing was put", p)
				}
			}
		}
		want(t, "New's calls of the device", d.Calls(), calls)
		want(t, "what waits behind New", d.Waiting(), 0)
	}
}

func TestNewOfWrongNumbers(t *testing.T) {
	for _, size := range []int{1, 64, 100, 4096} {
		d := device(t, size)
		for _, blocks := range append(ends(), 0, 65, 66, 128) {
			for _, from := range append(ends(), 0, 1, size-1, size) {
				wantNoPool(t, "so many blocks", d, from, blocks, api.ErrArg)
			}
		}
		for _, from := range ends() {
			wanted := api.ErrRange
			if from < 0 {
				wanted = api.ErrArg
			}
			for _, blocks := range []int{1, 2, 63, 64} {
				wantNoPool(t, "from so far", d, from, blocks, wanted)
			}
		}
	}
}

func TestNewOnNoDevice(t *testing.T) {
	for _, n := range append(ends(), 0, 1, 64, 65) {
		wantNoPool(t, "no device", nil, 0, n, api.ErrNil)
		wantNoPool(t, "no device", nil, n, 1, api.ErrNil)
	}
}

func TestNewOnADeviceThatIsOff(t *testing.T) {
	d := device(t, 9)
	d.Limit(0)
	want(t, "off", d.Flush(), api.ErrOff)
	p := made(t, d, 4, 5)
	wantNoPool(t, "off", d, 5, 5, api.ErrRange)
	wantNoPool(t, "off", d, 0, 65, api.ErrArg)
	wantNoGet(t, "off", p, 0, api.ErrOff)
	put(t, p, write(0, 1))
	wantGet(t, "off, in hand", p, 0, block(1))
	want(t, "off", d.Off(), true)
	d.Crash(nil)
	wantGet(t, "on again", p, 1, sector(5))
}

// P11.1: Get

func TestGetOfEachBlock(t *testing.T) {
	d := device(t, 80)
	for _, from := range []int{0, 1, 7, 16} {
		p := made(t, d, from, 64)
		for n := range 64 {
			wantGet(t, "on the device", p, n, sector(from+n))
		}
		for n := range 64 {
			put(t, p, write(n, byte(n+100)))
			wantGet(t, "in hand", p, n, block(byte(n+100)))
			if n < 63 {
				wantGet(t, "not in hand", p, n+1, sector(from+n+1))
			}
		}
		for n := range 64 {
			wantGet(t, "all in hand", p, n, block(byte(n+100)))
		}
	}
}

func TestGetOfNoBlock(t *testing.T) {
	for _, blocks := range []int{1, 2, 5, 64} {
		d := device(t, 200)
		p := made(t, d, 70, blocks)
		for _, what := range []string{"on", "off"} {
			for _, n := range append(ends(), -71, -70, -69, blocks, blocks+1, 129, 130) {
				wantNoGet(t, what, p, n, api.ErrBlock)
			}
			goOff(d)
		}
	}
}

// goOff without anything done.
func goOff(d *dev.Dev) {
	d.Limit(0)
	d.Flush()
}

func TestGetWhereTheDeviceFails(t *testing.T) {
	d := device(t, 20)
	p := made(t, d, 10, 5)
	put(t, p, write(3, 1), write(0, 2))
	want(t, "Save", p.Save(), api.OK)
	put(t, p, write(4, 3), write(3, 4))
	goOff(d)
	wantGet(t, "saved, in hand", p, 0, block(2))
	wantNoGet(t, "not in hand", p, 1, api.ErrOff)
	wantNoGet(t, "not in hand", p, 2, api.ErrOff)
	wantGet(t, "saved, and put again", p, 3, block(4))
	wantGet(t, "dirty", p, 4, block(3))
	wantNoGet(t, "no such block", p, 5, api.ErrBlock)
	put(t, p, write(1, 5))
	wantGet(t, "put while it is off", p, 1, block(5))
	d.Crash(nil)
	wantGet(t, "on again", p, 2, sector(12))
	wantGet(t, "on again", p, 0, block(2))
}

// What lies on the device may change under a pool: what isn't in hand is told as it is there now.
func TestGetAsksTheDeviceEachTime(t *testing.T) {
	d := device(t, 20)
	p := made(t, d, 10, 5)
	put(t, p, write(2, 1))
	for n := byte(50); n < 55; n++ {
		d.Write(10, slices.Repeat(block(n), 5))
		wantAll(t, "waiting", p, slices.Concat(block(n), block(n), block(1), block(n), block(n)))
	}
	d.Crash(nil)
	wantAll(t, "none of it stays", p, slices.Concat(sector(10), sector(11), block(1), sector(13), sector(14)))
	p.Drop()
	wantGet(t, "dropped", p, 2, sector(12))
}

// P11.1: Put

func TestPutOfNothing(t *testing.T) {
	d := device(t, 10)
	p := made(t, d, 1, 3)
	for range 2 {
		put(t, p)
		put(t, p, nil...)
		put(t, p, []api.Write{}...)
		wantDirty(t, "nothing was put", p)
		wantAll(t, "nothing was put", p, odd(64 * 4)[64:])
		goOff(d)
		put(t, p)
		d.Crash(nil)
	}
	put(t, p, write(1, 9))
	put(t, p)
	wantDirty(t, "and nothing behind it", p, 1)
	wantAll(t, "and nothing behind it", p, slices.Concat(sector(1), block(9), sector(3)))
}

func TestPutInOrder(t *testing.T) {
	p := made(t, device(t, 10), 2, 4)
	put(t, p, write(3, 1), write(0, 2), write(3, 3), write(1, 4), write(3, 5), write(0, 6))
	wantAll(t, "the last ones of each", p, slices.Concat(block(6), block(4), sector(4), block(5)))
	wantDirty(t, "once each", p, 0, 1, 3)
	put(t, p, write(3, 7))
	put(t, p, write(0, 8), write(2, 9))
	wantAll(t, "put again", p, slices.Concat(block(8), block(4), block(9), block(7)))
	wantDirty(t, "put again", p, 0, 1, 2, 3)
}

func TestPutOfEachByte(t *testing.T) {
	p := made(t, device(t, 70), 3, 64)
	for n := range 64 {
		b := odd(64)
		b[n]++
		put(t, p, api.Write{Block: n, B: b})
		wantGet(t, "one byte is another one", p, n, b)
		b[n]--
		wantGet(t, "what was handed in, changed", p, n, append(slices.Concat(b[:n], []byte{b[n] + 1}), b[n+1:]...))
	}
}

// Put leaves the device as it is, and needs it not.
func TestPutDoesNotCallTheDevice(t *testing.T) {
	d := device(t, 10)
	p := made(t, d, 2, 4)
	calls := d.Calls()
	put(t, p, write(0, 1), write(3, 2))
	goOff(d)
	put(t, p, write(1, 3))
	want(t, "no block, off", p.Put(write(4, 1)), api.ErrBlock)
	want(t, "no length, off", p.Put(api.Write{Block: 1}), api.ErrSize)
	d.Crash(nil)
	want(t, "calls", d.Calls(), calls)
	want(t, "what waits", d.Waiting(), 0)
	want(t, "what stays", bytes.Equal(d.Image(), odd(640)), true)
	wantAll(t, "in hand", p, slices.Concat(block(1), block(3), sector(4), block(2)))
}

// What is put as it is already is dirty all the same.
func TestPutOfWhatIsThere(t *testing.T) {
	d := device(t, 10)
	p := made(t, d, 2, 4)
	put(t, p, api.Write{Block: 1, B: sector(3)})
	wantDirty(t, "as on the device", p, 1)
	want(t, "Save", p.Save(), api.OK)
	wantDirty(t, "saved", p)
	put(t, p, api.Write{Block: 1, B: sector(3)})
	wantDirty(t, "as in hand", p, 1)
}

// wrongWrites and their errors, for a pool of 5 blocks.
func wrongWrites() map[string]struct {
	w api.Write
	e api.Errno
} {
	type wrong = struct {
		w api.Write
		e api.Errno
	}
	m := map[string]wrong{
		"no bytes":             {api.Write{Block: 1, B: []byte{}}, api.ErrSize},
		"nil bytes":            {api.Write{Block: 1}, api.ErrSize},
		"both are wrong":       {api.Write{Block: 5, B: block(1)[:63]}, api.ErrBlock},
		"both, and it is less": {api.Write{Block: -1}, api.ErrBlock},
		"just one beyond":      {write(5, 1), api.ErrBlock},
		"far beyond":           {write(64, 1), api.ErrBlock},
	}
	for _, n := range []int{1, 2, 32, 62, 63, 65, 66, 127, 128, 64 * 5, 1<<16 + 64} {
		for _, k := range []int{0, 1, 4} {
			m[fmt.Sprintf("%d bytes to %d", n, k)] = wrong{api.Write{Block: k, B: odd(n)}, api.ErrSize}
		}
	}
	for _, n := range ends() {
		m[fmt.Sprintf("block %d", n)] = wrong{write(n, 1), api.ErrBlock}
		m[fmt.Sprintf("block %d, a short one", n)] = wrong{api.Write{Block: n, B: odd(63)}, api.ErrBlock}
	}
	return m
}

// A wrong write at each place among right ones: nothing is put.
func TestPutOfWrongWrites(t *testing.T) {
	for what, wrong := range wrongWrites() {
		for _, elder := range []bool{false, true} {
			p := made(t, device(t, 100), 50, 5)
			wanted, dirty := odd(64 * 55)[64*50:], []int(nil)
			if elder {
				put(t, p, write(3, 70), write(1, 71))
				wanted = slices.Concat(sector(50), block(71), sector(52), block(70), sector(54))
				dirty = []int{1, 3}
			}
			right := []api.Write{write(0, 80), write(3, 81), write(4, 82), write(3, 83)}
			for at := range len(right) + 1 {
				want(t, what, p.Put(slices.Insert(slices.Clone(right), at, wrong.w)...), wrong.e)
				wantDirty(t, what, p, dirty...)
				wantAll(t, what, p, wanted)
			}
			put(t, p, right...)
			wantGet(t, what+", without it", p, 3, block(83))
		}
	}
}

// Of several wrong ones the first one counts, whichever error it is.
func TestPutOfSeveralWrongWrites(t *testing.T) {
	p := made(t, device(t, 9), 4, 5)
	none, short := write(5, 1), api.Write{Block: 1, B: odd(63)}
	want(t, "no block first", p.Put(none, short), api.ErrBlock)
	want(t, "a short one first", p.Put(short, none), api.ErrSize)
	want(t, "a right one, no block", p.Put(write(0, 1), none, short, write(2, 1)), api.ErrBlock)
	want(t, "a right one, a short one", p.Put(write(0, 1), short, none, write(2, 1)), api.ErrSize)
	wantDirty(t, "nothing was put", p)
	wantAll(t, "nothing was put", p, odd(64 * 9)[64*4:])
}

// P11.1: Dirty

func TestDirtyRises(t *testing.T) {
	p := made(t, device(t, 100), 20, 64)
	wantDirty(t, "none", p)
	put(t, p, write(63, 1))
	wantDirty(t, "one", p, 63)
	put(t, p, write(0, 1))
	wantDirty(t, "two", p, 0, 63)
	put(t, p, write(10, 1), write(9, 1), write(11, 1), write(9, 2))
	wantDirty(t, "several", p, 0, 9, 10, 11, 63)
	for n := range 64 {
		put(t, p, write(n*27%64, byte(n))) // each of them, as 27 is odd
	}
	if l := p.Dirty(); len(l) != 64 || !slices.IsSorted(l) || l[0] != 0 || l[63] != 63 {
		t.Errorf("all: %v", l)
	}
}

// All orders in which four blocks may be put, at once and one by one.
func TestDirtyInAnyOrder(t *testing.T) {
	d := device(t, 100)
	for n := range 256 {
		l := []int{n & 3, n >> 2 & 3, n >> 4 & 3, n >> 6}
		sorted := slices.Compact(slices.Sorted(slices.Values(l)))
		at, one := made(t, d, 20, 4), made(t, d, 20, 4)
		var all []api.Write
		for i, k := range l {
			all = append(all, write(k, byte(i)))
			put(t, one, write(k, byte(i)))
		}
		put(t, at, all...)
		wantDirty(t, "at once", at, sorted...)
		wantDirty(t, "one by one", one, sorted...)
	}
}
