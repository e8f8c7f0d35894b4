package pool_test

import (
	"bytes"
	"fmt"
	"slices"
	"testing"

	"breviary/api"
	"breviary/dev"
	"breviary/image"
	"breviary/pool"
)

func save(t *testing.T, p *pool.Pool) {
	t.Helper()
	want(t, "Save", p.Save(), api.OK)
}

// laid is odd bytes, so many sectors of them, with other blocks at a few places.
func laid(sectors int, l ...api.Write) []byte {
	b := odd(64 * sectors)
	for _, w := range l {
		copy(b[64*w.Block:], w.B)
	}
	return b
}

// wantStays: what stays on a device, all of it.
func wantStays(t *testing.T, what string, d *dev.Dev, wanted []byte) {
	t.Helper()
	if b := d.Image(); !bytes.Equal(b, wanted) {
		t.Errorf("%s: the device: %v, wanted %v", what, b, wanted)
	}
}

// P11.2: Save

// Save of none flushes all the same: what others wrote stays.
func TestSaveOfNone(t *testing.T) {
	d := device(t, 10)
	p := made(t, d, 2, 4)
	d.Write(9, block(1))
	d.Write(3, block(2))
	calls := d.Calls()
	save(t, p)
	want(t, "a flush alone", d.Calls(), calls+1)
	want(t, "what waits", d.Waiting(), 0)
	d.Crash(nil)
	wantStays(t, "flushed", d, laid(10, write(9, 1), write(3, 2)))
	put(t, p, write(0, 3))
	p.Drop()
	save(t, p)
	want(t, "behind Drop", d.Calls(), calls+2)
	put(t, p, write(0, 4))
	save(t, p)
	save(t, p)
	want(t, "behind Save", d.Calls(), calls+2+2+1)
	goOff(d)
	want(t, "none, off", p.Save(), api.ErrOff)
}

// Each subset of the blocks is saved by a write each, rising, and by a flush; what isn't dirty isn't written.
func TestSaveOfEachSubset(t *testing.T) {
	for set := range 1 << 6 {
		d := device(t, 12)
		p := made(t, d, 4, 6)
		var l []api.Write
		for n := range 6 {
			if k := n * 5 % 6; set>>k&1 == 1 { // not in order
				l = append(l, write(k, byte(k+100)))
			}
		}
		put(t, p, l...)
		calls := d.Calls()
		save(t, p)
		what := fmt.Sprintf("set %b", set)
		want(t, what+": calls", d.Calls(), calls+len(l)+1)
		want(t, what+": what waits", d.Waiting(), 0)
		wantDirty(t, what, p)
		wanted := odd(64 * 12)
		for _, w := range l {
			copy(wanted[64*(4+w.Block):], w.B)
		}
		d.Crash(nil)
		wantStays(t, what, d, wanted)
		wantAll(t, what, p, wanted[64*4:64*10])
		wantAll(t, what+", another pool", made(t, d, 4, 6), wanted[64*4:64*10])
	}
}

func TestSaveOfAllBlocks(t *testing.T) {
	d := device(t, 100)
	p := made(t, d, 36, 64)
	b := odd(64 * 64 * 2)[64*64:]
	for n := range 64 {
		put(t, p, api.Write{Block: 63 - n, B: b[64*(63-n) : 64*(64-n)]})
	}
	save(t, p)
	d.Crash(nil)
	wantStays(t, "all", d, slices.Concat(odd(64*36), b))
	p.Drop()
	wantAll(t, "all, dropped", p, b)
}

// What is saved isn't written again, till it is put again.
func TestSaveWritesWhatIsDirtyAlone(t *testing.T) {
	d := device(t, 10)
	p := made(t, d, 2, 4)
	put(t, p, write(0, 1), write(2, 2))
	save(t, p)
	d.Write(2, block(50)) // under the pool
	d.Write(4, block(51))
	put(t, p, write(2, 3), write(3, 4))
	wantDirty(t, "the later ones alone", p, 2, 3)
	calls := d.Calls()
	save(t, p)
	want(t, "calls", d.Calls(), calls+3)
	wantStays(t, "block 0 isn't written again", d, laid(10, write(2, 50), write(4, 3), write(5, 4)))
	wantAll(t, "block 0 is in hand", p, slices.Concat(block(1), sector(3), block(3), block(4)))
}

// What was saved stays in hand.
func TestWhatIsSavedStaysInHand(t *testing.T) {
	d := device(t, 10)
	p := made(t, d, 2, 3)
	put(t, p, write(0, 1), write(1, 2), write(2, 3))
	save(t, p)
	d.Write(2, odd(64 * 9)[64*6:])
	d.Flush()
	wantAll(t, "others wrote there", p, slices.Concat(block(1), block(2), block(3)))
	goOff(d)
	wantAll(t, "off", p, slices.Concat(block(1), block(2), block(3)))
	d.Crash(nil)
	p.Drop()
	wantAll(t, "dropped", p, odd(64 * 9)[64*6:])
}

// The device fails at each call of a Save: all stay dirty, what was written waits, rising, and a later Save writes all.
func TestSaveWhereTheDeviceFails(t *testing.T) {
	l := []api.Write{write(4, 1), write(0, 2), write(3, 3), write(0, 4)}
	rising := []api.Write{write(0, 4), write(3, 3), write(4, 1)}
	for calls := range len(rising) + 1 {
		for kept := range 1 << calls {
			what := fmt.Sprintf("%d calls, %b stays", calls, kept)
			d := device(t, 9)
			p := made(t, d, 4, 5)
			put(t, p, l...)
			d.Limit(calls)
			want(t, what, p.Save(), api.ErrOff)
			wantDirty(t, what, p, 0, 3, 4)
			want(t, what+": what waits", d.Waiting(), calls)
			want(t, what+", once more", p.Save(), api.ErrOff)
			want(t, what+": what waits then", d.Waiting(), calls)
			wantStays(t, what+", ahead of the crash", d, odd(64*9))
			wantGet(t, what+", in hand", p, 0, block(4))
			wantNoGet(t, what+", not in hand", p, 1, api.ErrOff)

			keep, wanted := make([]bool, calls), odd(64*9)
			for i := range keep {
				if keep[i] = kept>>i&1 == 1; keep[i] {
					copy(wanted[64*(4+rising[i].Block):], rising[i].B)
				}
			}
			d.Crash(keep)
			wantStays(t, what+", behind the crash", d, wanted)
			wantAll(t, what+", another pool", made(t, d, 4, 5), wanted[64*4:])
			wantDirty(t, what+", behind the crash", p, 0, 3, 4)
			all := slices.Concat(block(4), sector(5), sector(6), block(3), block(1))
			wantAll(t, what+", behind the crash", p, all)

			done := d.Calls()
			save(t, p)
			want(t, what+": calls of the later Save", d.Calls(), done+4)
			wantDirty(t, what+", saved", p)
			d.Crash(nil)
			wantStays(t, what+", saved", d, slices.Concat(odd(64*4), all))
		}
	}
}

// Behind a Save that failed: what was saved earlier isn't dirty, and what is put then is what a later Save writes.
func TestPutBehindASaveThatFailed(t *testing.T) {
	d := device(t, 9)
	p := made(t, d, 4, 5)
	put(t, p, write(1, 1), write(2, 2))
	save(t, p)
	put(t, p, write(0, 3), write(2, 4))
	d.Limit(2)
	want(t, "the flush", p.Save(), api.ErrOff)
	wantDirty(t, "failed", p, 0, 2)
	put(t, p, write(0, 5), write(3, 6))
	wantDirty(t, "put then", p, 0, 2, 3)
	d.Crash([]bool{true, true})
	wantStays(t, "what was written ahead of it", d, laid(9, write(4, 3), write(5, 1), write(6, 4)))
	wantAll(t, "in hand", p, slices.Concat(block(5), block(1), block(4), block(6), sector(8)))
	save(t, p)
	d.Crash(nil)
	wantStays(t, "the later Save", d, laid(9, write(4, 5), write(5, 1), write(6, 4), write(7, 6)))
}

// P11.2: Drop

func TestDrop(t *testing.T) {
	d := device(t, 9)
	p := made(t, d, 4, 5)
	p.Drop()
	wantAll(t, "nothing in hand", p, odd(64 * 9)[64*4:])
	put(t, p, write(0, 1), write(3, 2))
	save(t, p)
	put(t, p, write(3, 3), write(4, 4))
	calls := d.Calls()
	p.Drop()
	wantDirty(t, "dropped", p)
	saved := slices.Concat(block(1), sector(5), sector(6), block(2), sector(8))
	wantAll(t, "what was saved alone", p, saved)
	want(t, "Drop's calls of the device", d.Calls(), calls)
	save(t, p)
	want(t, "there is nothing to write", d.Calls(), calls+1)
	p.Drop()
	p.Drop()
	wantAll(t, "dropped again", p, saved)
	put(t, p, write(1, 5))
	wantDirty(t, "put behind it", p, 1)
	wantGet(t, "put behind it", p, 1, block(5))
}

func TestDropWhileTheDeviceIsOff(t *testing.T) {
	d := device(t, 9)
	p := made(t, d, 4, 5)
	put(t, p, write(0, 1))
	save(t, p)
	put(t, p, write(1, 2))
	goOff(d)
	p.Drop()
	wantNoGet(t, "what was saved", p, 0, api.ErrOff)
	wantNoGet(t, "what was dirty", p, 1, api.ErrOff)
	wantDirty(t, "none", p)
	d.Crash(nil)
	wantAll(t, "on again", p, slices.Concat(block(1), odd(64 * 9)[64*5:]))
}

// What a Save that failed left waiting is read behind Drop, till a crash loses it.
func TestDropBehindASaveThatFailed(t *testing.T) {
	d := device(t, 9)
	p := made(t, d, 4, 5)
	put(t, p, write(0, 1), write(1, 2))
	d.Limit(1)
	want(t, "Save", p.Save(), api.ErrOff)
	p.Drop()
	wantDirty(t, "dropped", p)
	d.Crash([]bool{true})
	wantAll(t, "one of them stays", p, slices.Concat(block(1), odd(64 * 9)[64*5:]))
}

// P11.2: Image

func wantNoImage(t *testing.T, what string, p *pool.Pool, wanted api.Errno) {
	t.Helper()
	if x, e := p.Image(); e != wanted || x != nil {
		t.Errorf("%s: Image: %v, %v, wanted %v", what, x, e, wanted)
	}
}

func TestImageOfEachSize(t *testing.T) {
	d := device(t, 100)
	for blocks := 1; blocks <= 64; blocks++ {
		p := made(t, d, 100-blocks, blocks)
		wanted := odd(64 * 100)[64*(100-blocks):]
		wantAll(t, "on the device", p, wanted)
		for n := 0; n < blocks; n += 3 {
			put(t, p, write(n, byte(n+7)))
			copy(wanted[64*n:], block(byte(n+7)))
		}
		calls := d.Calls()
		wantAll(t, "some in hand", p, wanted)
		want(t, "Image's calls of the device", d.Calls(), calls)
	}
}

// An image is wanted of all blocks: one that isn't in hand is enough for the device's error.
func TestImageWhereTheDeviceFails(t *testing.T) {
	for missing := range 5 {
		d := device(t, 9)
		p := made(t, d, 4, 5)
		wanted := []byte(nil)
		for n := range 5 {
			if n != missing {
				put(t, p, write(n, byte(n+1)))
			}
			wanted = append(wanted, block(byte(n+1))...)
		}
		goOff(d)
		wantNoImage(t, fmt.Sprintf("without %d", missing), p, api.ErrOff)
		put(t, p, write(missing, byte(missing+1)))
		wantAll(t, "all in hand", p, wanted)
		p.Drop()
		wantNoImage(t, "none in hand", p, api.ErrOff)
	}
}

func TestAnImageStays(t *testing.T) {
	d := device(t, 9)
	p := made(t, d, 4, 3)
	put(t, p, write(1, 1))
	x, _ := p.Image()
	put(t, p, write(0, 2), write(1, 3))
	y, _ := p.Image()
	save(t, p)
	d.Write(4, slices.Concat(block(4), block(5), block(6)))
	d.Flush()
	p.Drop()
	wantAll(t, "the pool", p, slices.Concat(block(4), block(5), block(6)))
	if !bytes.Equal(x.Bytes(), slices.Concat(sector(4), block(1), sector(6))) {
		t.Errorf("an elder image: %v", x.Bytes())
	}
	if l := image.Diff(x, y); !slices.Equal(l, []int{0, 1}) {
		t.Errorf("two images differ in %v", l)
	}
}

// P11.3

// A crash behind Put, each subset of what others wrote stays: what is put is in hand, and not on the device.
func TestCrashBehindPut(t *testing.T) {
	for kept := range 4 {
		d := device(t, 9)
		p := made(t, d, 4, 5)
		d.Write(4, block(50))
		d.Write(8, block(51))
		put(t, p, write(0, 1), write(3, 2))
		d.Crash([]bool{kept&1 == 1, kept>>1 == 1})
		wanted := odd(64 * 9)
		if kept&1 == 1 {
			copy(wanted[64*4:], block(50))
		}
		if kept>>1 == 1 {
			copy(wanted[64*8:], block(51))
		}
		wantStays(t, "the device", d, wanted)
		wantAll(t, "another pool", made(t, d, 4, 5), wanted[64*4:])
		wantAll(t, "in hand", p, slices.Concat(block(1), sector(5), sector(6), block(2), wanted[64*8:]))
		wantDirty(t, "in hand", p, 0, 3)
		p.Drop()
		wantAll(t, "dropped", p, wanted[64*4:])
	}
}

// A crash behind a Save: with nothing left of what waits, with all of it, and with another Put and Save under way.
func TestCrashBehindSave(t *testing.T) {
	for kept := range 8 {
		d := device(t, 9)
		p := made(t, d, 4, 5)
		put(t, p, write(0, 1), write(2, 2), write(4, 3))
		save(t, p)
		put(t, p, write(2, 4), write(3, 5), write(4, 6))
		d.Limit(3)
		want(t, "the later Save", p.Save(), api.ErrOff)
		keep, wanted := make([]bool, 3), laid(9, write(4, 1), write(6, 2), write(8, 3))
		for i := range keep {
			if keep[i] = kept>>i&1 == 1; keep[i] {
				copy(wanted[64*(6+i):], block(byte(4+i)))
			}
		}
		d.Crash(keep)
		wantStays(t, "saved first, or then", d, wanted)
		wantAll(t, "in hand", p, slices.Concat(block(1), sector(5), block(4), block(5), block(6)))
		p.Drop()
		wantAll(t, "dropped", p, wanted[64*4:])
	}
}

func TestWhatIsPutIsGotAndWhatIsSavedIsThere(t *testing.T) {
	d := device(t, 70)
	p := made(t, d, 3, 64)
	for n := range 64 {
		b := odd(64 * 70)[64*(69-n):][:64]
		put(t, p, api.Write{Block: n, B: b})
		wantGet(t, "put", p, n, b)
		if n%2 == 0 {
			save(t, p)
		}
		p.Drop()
		wantDirty(t, "dropped", p)
		if n%2 == 1 {
			b = sector(3 + n)
		}
		wantGet(t, "dropped", p, n, b)
		d.Crash(nil)
		wantGet(t, "behind a crash", p, n, b)
		wantGet(t, "another pool", made(t, d, 3+n, 1), 0, b)
	}
}
