package pool_test

import (
	"bytes"
	"math/rand"
	"slices"
	"testing"

	"breviary/api"
	"breviary/dev"
	"breviary/pool"
)

// spoil the bytes, and the room behind them.
func spoil(b []byte) {
	b = b[:cap(b)]
	for i := range b {
		b[i] ^= 0x55
	}
}

// roomy is b with room behind it that has bytes in it.
func roomy(b []byte) []byte {
	r := append(make([]byte, 0, len(b)+100), b...)
	for i := len(b); i < cap(r); i++ {
		r[:cap(r)][i] = 77
	}
	return r
}

// What is said of memory everywhere.

func TestWhatIsHandedInIsNeitherKeptNorChanged(t *testing.T) {
	d := device(t, 9)
	p := made(t, d, 4, 5)
	b := roomy(block(9))
	l := append(make([]api.Write, 0, 4), api.Write{Block: 3, B: b}, api.Write{Block: 0, B: b}, write(3, 8))
	put(t, p, l...)
	if l[0].Block != 3 || l[1].Block != 0 || l[2].Block != 3 || l[:4][3].B != nil || l[:4][3].Block != 0 {
		t.Errorf("Put changed its writes: %v", l[:4])
	}
	if !bytes.Equal(b, block(9)) || !bytes.Equal(b[:cap(b)][64:], bytes.Repeat([]byte{77}, cap(b)-64)) {
		t.Errorf("Put changed a write's bytes")
	}
	spoil(b)
	spoil(l[2].B)
	l[0].Block, l[1].Block = 1, 2
	wanted := slices.Concat(block(9), sector(5), sector(6), block(8), sector(8))
	wantAll(t, "changed afterwards", p, wanted)
	wantDirty(t, "changed afterwards", p, 0, 3)
	save(t, p)
	spoil(b)
	spoil(l[2].B)
	wantAll(t, "changed behind Save", p, wanted)
	wantStays(t, "changed behind Save", d, slices.Concat(odd(64*4), wanted))
}

func TestRoomBehindIsNotRead(t *testing.T) {
	p := made(t, device(t, 9), 4, 5)
	b := odd(128)
	put(t, p, append(make([]api.Write, 0, 2), api.Write{Block: 1, B: b[:64]}, api.Write{Block: 9})[:1]...)
	wantGet(t, "with room", p, 1, odd(64))
	want(t, "63 bytes with room", p.Put(api.Write{Block: 1, B: b[:63]}), api.ErrSize)
	want(t, "none with room", p.Put(api.Write{Block: 1, B: b[:0]}), api.ErrSize)
}

func TestAnswersAreNewMemory(t *testing.T) {
	d := device(t, 9)
	p := made(t, d, 4, 3)
	put(t, p, write(1, 1))
	save(t, p)
	put(t, p, write(2, 2))
	wanted := slices.Concat(sector(4), block(1), block(2))
	for n := range 3 {
		b, _ := p.Get(n)
		again, _ := p.Get(n)
		spoil(b)
		_ = append(b, block(3)...)
		if !bytes.Equal(again, wanted[64*n:64*n+64]) {
			t.Errorf("two answers of Get(%d) share memory", n)
		}
		wantAll(t, "behind spoilt bytes", p, wanted)
	}
	l := p.Dirty()
	again := p.Dirty()
	_ = append(l, 1)
	l[0] = 0
	want(t, "another answer of Dirty", slices.Equal(again, []int{2}), true)
	wantDirty(t, "behind a changed list", p, 2)
	x, _ := p.Image()
	spoil(x.Bytes())
	wantAll(t, "behind a spoilt image", p, wanted)
	save(t, p)
	wantStays(t, "saved", d, laid(9, write(5, 1), write(6, 2)))
}

// What a Save wrote waits as it was, whatever is put behind it.
func TestWhatWaitsIsNotThePools(t *testing.T) {
	d := device(t, 9)
	p := made(t, d, 4, 5)
	put(t, p, write(0, 1), write(1, 2))
	d.Limit(2)
	want(t, "the flush", p.Save(), api.ErrOff)
	put(t, p, write(0, 3))
	p.Drop()
	put(t, p, write(1, 4))
	d.Crash([]bool{true, true})
	wantStays(t, "as it was written", d, laid(9, write(4, 1), write(5, 2)))
}

// Pools over one device.

func TestTwoPoolsSideBySide(t *testing.T) {
	d := device(t, 12)
	low, high := made(t, d, 1, 4), made(t, d, 5, 6)
	put(t, low, write(0, 1), write(3, 2))
	put(t, high, write(0, 3), write(5, 4))
	wantAll(t, "low", low, slices.Concat(block(1), sector(2), sector(3), block(2)))
	wantAll(t, "high", high, slices.Concat(block(3), odd(64 * 10)[64*6:], block(4)))
	calls := d.Calls()
	save(t, low)
	want(t, "calls of low's Save", d.Calls(), calls+3)
	wantDirty(t, "low, saved", low)
	wantDirty(t, "high, isn't", high, 0, 5)
	d.Crash(nil)
	wantStays(t, "low's alone", d, laid(12, write(1, 1), write(4, 2)))
	low.Drop()
	wantAll(t, "high, behind low's Drop", high, slices.Concat(block(3), odd(64 * 10)[64*6:], block(4)))
	save(t, high)
	d.Crash(nil)
	wantStays(t, "both", d, laid(12, write(1, 1), write(4, 2), write(5, 3), write(10, 4)))
	wantAll(t, "low, on the device", low, laid(12, write(1, 1), write(4, 2))[64:64*5])
}

// A Save flushes all of the device, what another pool wrote and didn't flush too.
func TestOnePoolsSaveFlushesForAnother(t *testing.T) {
	d := device(t, 12)
	low, high := made(t, d, 1, 4), made(t, d, 5, 6)
	put(t, low, write(2, 1))
	d.Write(3, block(2))
	save(t, high)
	d.Crash(nil)
	wantStays(t, "flushed", d, laid(12, write(3, 2)))
	wantGet(t, "low's in hand is over it", low, 2, block(1))
	wantDirty(t, "low", low, 2)
}

// Pools over the same sectors: each has its own in hand, and reads what the other one saved elsewhere.
func TestTwoPoolsOverTheSameSectors(t *testing.T) {
	d := device(t, 9)
	one, two := made(t, d, 2, 5), made(t, d, 4, 5)
	put(t, one, write(2, 1), write(3, 2))
	put(t, two, write(0, 3))
	save(t, one)
	wantGet(t, "two's own", two, 0, block(3))
	wantGet(t, "what one saved", two, 1, block(2))
	save(t, two)
	wantGet(t, "one's own", one, 2, block(1))
	one.Drop()
	wantGet(t, "what two saved", one, 2, block(3))
	wantStays(t, "the later one of each", d, laid(9, write(4, 3), write(5, 2)))
}

func TestTwoPoolsOfTwoDevices(t *testing.T) {
	d, other := device(t, 9), device(t, 9)
	one, two := made(t, d, 4, 5), made(t, other, 4, 5)
	put(t, one, write(0, 1))
	put(t, two, write(0, 2))
	goOff(d)
	want(t, "one is off", one.Save(), api.ErrOff)
	save(t, two)
	wantStays(t, "one", d, odd(64*9))
	wantStays(t, "two", other, laid(9, write(4, 2)))
	wantDirty(t, "one", one, 0)
}

// A nil pool.

func TestNilPool(t *testing.T) {
	var p *pool.Pool
	for _, n := range append(ends(), 0, 1, 63, 64) {
		wantNoGet(t, "nil", p, n, api.ErrNil)
		want(t, "Put", p.Put(write(n, 1)), api.ErrNil)
	}
	want(t, "Put of nothing", p.Put(), api.ErrNil)
	want(t, "Put of a short one", p.Put(api.Write{}), api.ErrNil)
	wantDirty(t, "nil", p)
	want(t, "Save", p.Save(), api.ErrNil)
	p.Drop()
	wantNoImage(t, "nil", p, api.ErrNil)
}

// Pools beside plain ones.

// plain is a pool over a device of its own, as the chapter tells it.
type plain struct {
	d            *dev.Dev
	from, blocks int
	hand         map[int][]byte
	dirty        map[int]bool
}

func (p *plain) get(n int) ([]byte, api.Errno) {
	if n < 0 || n >= p.blocks {
		return nil, api.ErrBlock
	}
	if b, ok := p.hand[n]; ok {
		return b, api.OK
	}
	return p.d.Read(p.from+n, 1)
}

func (p *plain) put(l []api.Write) api.Errno {
	for _, w := range l {
		if w.Block < 0 || w.Block >= p.blocks {
			return api.ErrBlock
		}
		if len(w.B) != 64 {
			return api.ErrSize
		}
	}
	for _, w := range l {
		p.hand[w.Block] = bytes.Clone(w.B)
		p.dirty[w.Block] = true
	}
	return api.OK
}

func (p *plain) save() api.Errno {
	for n := range p.blocks {
		if p.dirty[n] {
			if e := p.d.Write(p.from+n, p.hand[n]); e != api.OK {
				return e
			}
		}
	}
	e := p.d.Flush()
	if e == api.OK {
		clear(p.dirty)
	}
	return e
}

func (p *plain) drop() {
	clear(p.hand)
	clear(p.dirty)
}

func (p *plain) list() []int {
	var l []int
	for n := range p.blocks {
		if p.dirty[n] {
			l = append(l, n)
		}
	}
	return l
}

// image: the bytes of all, or the first error.
func (p *plain) image() ([]byte, api.Errno) {
	var all []byte
	for n := range p.blocks {
		b, e := p.get(n)
		if e != api.OK {
			return nil, e
		}
		all = append(all, b...)
	}
	return all, api.OK
}

// pair of a pool and a plain one.
type pair struct {
	p *pool.Pool
	q *plain
}

// alike: do both tell the same of all?
func (x pair) alike(t *testing.T) {
	t.Helper()
	wantDirty(t, "beside a plain one", x.p, x.q.list()...)
	for n := -1; n <= x.q.blocks; n++ {
		if b, e := x.q.get(n); e == api.OK {
			wantGet(t, "beside a plain one", x.p, n, b)
		} else {
			wantNoGet(t, "beside a plain one", x.p, n, e)
		}
	}
	b, e := x.q.image()
	if got, err := x.p.Image(); err != e || !bytes.Equal(got.Bytes(), b) {
		t.Errorf("beside a plain one: Image: %v, %v, wanted %v, %v", got.Bytes(), err, b, e)
	}
}

// someWrites, now and then a wrong one among them.
func someWrites(r *rand.Rand, blocks int) []api.Write {
	var l []api.Write
	for range r.Intn(4) {
		w := write(r.Intn(blocks), byte(r.Intn(256)))
		switch r.Intn(20) {
		case 0:
			w.Block = blocks + r.Intn(3)
		case 1:
			w.Block = -1 - r.Intn(3)
		case 2:
			w.B = odd(r.Intn(130))
		}
		l = append(l, w)
	}
	return l
}

// step of both devices, or of both pools.
func step(t *testing.T, r *rand.Rand, d, twin *dev.Dev, x pair) {
	t.Helper()
	switch r.Intn(12) {
	case 0:
		n := r.Intn(6) - 1
		d.Limit(n)
		twin.Limit(n)
	case 1:
		keep := make([]bool, r.Intn(8))
		for i := range keep {
			keep[i] = r.Intn(2) == 0
		}
		d.Crash(keep)
		twin.Crash(keep)
	case 2:
		at, b := r.Intn(d.Size()), block(byte(r.Intn(256)))
		want(t, "a write beside it", d.Write(at, b), twin.Write(at, b))
	case 3:
		x.p.Drop()
		x.q.drop()
	case 4, 5:
		want(t, "Save", x.p.Save(), x.q.save())
	default:
		l := someWrites(r, x.q.blocks)
		want(t, "Put", x.p.Put(l...), x.q.put(l))
	}
}

func TestBesidePlainPools(t *testing.T) {
	r := rand.New(rand.NewSource(11))
	for range 60 {
		size := 1 + r.Intn(20)
		d, twin := device(t, size), device(t, size)
		var pairs []pair
		for range 1 + r.Intn(3) {
			from := r.Intn(size)
			blocks := 1 + r.Intn(size-from)
			q := &plain{d: twin, from: from, blocks: blocks, hand: map[int][]byte{}, dirty: map[int]bool{}}
			pairs = append(pairs, pair{made(t, d, from, blocks), q})
		}
		for range 150 {
			step(t, r, d, twin, pairs[r.Intn(len(pairs))])
			for _, x := range pairs {
				x.alike(t)
			}
			want(t, "what stays", bytes.Equal(d.Image(), twin.Image()), true)
			want(t, "how many wait", d.Waiting(), twin.Waiting())
			want(t, "calls", d.Calls(), twin.Calls())
			want(t, "off", d.Off(), twin.Off())
		}
		if t.Failed() {
			return
		}
	}
}
