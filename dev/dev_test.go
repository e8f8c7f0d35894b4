package dev_test

import (
	"bytes"
	"math"
	"math/rand"
	"slices"
	"testing"

	"breviary/api"
	"breviary/dev"
)

func made(t *testing.T, sectors int) *dev.Dev {
	t.Helper()
	d, e := dev.New(sectors)
	if e != api.OK || d == nil {
		t.Fatalf("New(%d): %v, %v", sectors, d, e)
	}
	return d
}

// fill makes as many sectors as there are numbers, each full of its number.
func fill(numbers ...byte) []byte {
	var b []byte
	for _, x := range numbers {
		b = append(b, bytes.Repeat([]byte{x}, api.Sector)...)
	}
	return b
}

func want(t *testing.T, what string, got, wanted any) {
	t.Helper()
	if got != wanted {
		t.Errorf("%s: %v, wanted %v", what, got, wanted)
	}
}

func wantRead(t *testing.T, d *dev.Dev, at int, numbers ...byte) {
	t.Helper()
	b, e := d.Read(at, len(numbers))
	if e != api.OK || !bytes.Equal(b, fill(numbers...)) {
		t.Errorf("Read(%d, %d): %v %v, wanted sectors of %v", at, len(numbers), b, e, numbers)
	}
}

func wantImage(t *testing.T, d *dev.Dev, numbers ...byte) {
	t.Helper()
	if b := d.Image(); !bytes.Equal(b, fill(numbers...)) {
		t.Errorf("Image: %v, wanted sectors of %v", b, numbers)
	}
}

// P1.1

func TestNew(t *testing.T) {
	for _, n := range []int{math.MinInt, -1, 0, api.MostSectors + 1, math.MaxInt} {
		if d, e := dev.New(n); d != nil || e != api.ErrArg {
			t.Errorf("New(%d): %v, %v", n, d, e)
		}
	}
	for _, n := range []int{1, 2, api.MostSectors - 1, api.MostSectors} {
		d := made(t, n)
		want(t, "Size", d.Size(), n)
		want(t, "Waiting", d.Waiting(), 0)
		want(t, "Calls", d.Calls(), 0)
		want(t, "Off", d.Off(), false)
		wantImage(t, d, make([]byte, n)...)
		wantRead(t, d, 0, make([]byte, n)...)
	}
}

func TestReadRange(t *testing.T) {
	d := made(t, 5)
	want(t, "Write", d.Write(0, fill(1, 2, 3, 4, 5)), api.OK)
	for _, x := range []struct {
		at, n int
		e     api.Errno
	}{
		{0, 5, api.OK}, {0, 0, api.OK}, {2, 0, api.OK}, {2, 2, api.OK}, {4, 1, api.OK}, {5, 0, api.OK},
		{6, 0, api.ErrRange}, {5, 1, api.ErrRange}, {4, 2, api.ErrRange}, {0, 6, api.ErrRange},
		{-1, 0, api.ErrRange}, {-1, 1, api.ErrRange}, {-1, 7, api.ErrRange},
		{0, -1, api.ErrRange}, {5, -1, api.ErrRange}, {6, -1, api.ErrRange},
		{1, math.MaxInt, api.ErrRange}, {math.MaxInt, 1, api.ErrRange}, {math.MaxInt, math.MaxInt, api.ErrRange},
		{math.MinInt, math.MinInt, api.ErrRange}, {math.MinInt, 0, api.ErrRange}, {0, math.MinInt, api.ErrRange},
		{math.MaxInt, 0, api.ErrRange}, {math.MaxInt, math.MinInt, api.ErrRange},
	} {
		b, e := d.Read(x.at, x.n)
		var wanted []byte
		if x.e == api.OK {
			wanted = fill(1, 2, 3, 4, 5)[api.Sector*x.at : api.Sector*(x.at+x.n)]
		}
		if e != x.e || !bytes.Equal(b, wanted) {
			t.Errorf("Read(%d, %d): %v, %v", x.at, x.n, b, e)
		}
	}
	want(t, "Calls: reads don't count", d.Calls(), 1)
}

func TestWriteRefused(t *testing.T) {
	d := made(t, 3)
	for _, x := range []struct {
		at, n int
		e     api.Errno
	}{
		{0, 1, api.ErrArg}, {0, 63, api.ErrArg}, {0, 65, api.ErrArg}, {0, 129, api.ErrArg},
		{-1, 63, api.ErrArg}, {9, 63, api.ErrArg}, {0, 64*4 + 1, api.ErrArg}, {math.MaxInt, 1, api.ErrArg},
		{-1, 0, api.ErrRange}, {-1, 64, api.ErrRange}, {4, 0, api.ErrRange}, {3, 64, api.ErrRange},
		{2, 128, api.ErrRange}, {0, 256, api.ErrRange}, {math.MaxInt, 64, api.ErrRange},
		{math.MaxInt, 0, api.ErrRange}, {math.MinInt, 64, api.ErrRange}, {math.MinInt, 0, api.ErrRange},
	} {
		if e := d.Write(x.at, bytes.Repeat([]byte{7}, x.n)); e != x.e {
			t.Errorf("Write(%d, %d bytes): %v, wanted %v", x.at, x.n, e, x.e)
		}
	}
	want(t, "Calls", d.Calls(), 0)
	want(t, "Waiting", d.Waiting(), 0)
	wantRead(t, d, 0, 0, 0, 0)
}

func TestWritesWaitTillFlushed(t *testing.T) {
	d := made(t, 4)
	want(t, "Write", d.Write(1, fill(1, 2)), api.OK)
	want(t, "Write", d.Write(2, fill(3, 4)), api.OK)
	want(t, "Waiting: a sector waits as often as it was written", d.Waiting(), 4)
	wantRead(t, d, 0, 0, 1, 3, 4)
	wantRead(t, d, 1, 1, 3)
	wantRead(t, d, 3, 4)
	wantImage(t, d, 0, 0, 0, 0)
	want(t, "Flush", d.Flush(), api.OK)
	want(t, "Waiting", d.Waiting(), 0)
	wantRead(t, d, 0, 0, 1, 3, 4)
	wantImage(t, d, 0, 1, 3, 4)
	want(t, "Write", d.Write(1, fill(9)), api.OK)
	wantRead(t, d, 0, 0, 9, 3, 4)
	wantImage(t, d, 0, 1, 3, 4)
}

func TestWriteOfNone(t *testing.T) {
	d := made(t, 2)
	for _, at := range []int{0, 1, 2} {
		want(t, "Write of nil", d.Write(at, nil), api.OK)
		want(t, "Write of none", d.Write(at, []byte{}), api.OK)
	}
	want(t, "Waiting", d.Waiting(), 0)
	want(t, "Calls", d.Calls(), 6)
}

func TestWholeDevice(t *testing.T) {
	d := made(t, api.MostSectors)
	b := make([]byte, api.MostSectors*api.Sector)
	for i := range b {
		b[i] = byte(i*7 + i/api.Sector)
	}
	want(t, "Write", d.Write(0, b), api.OK)
	want(t, "Waiting", d.Waiting(), api.MostSectors)
	got, e := d.Read(0, api.MostSectors)
	if e != api.OK || !bytes.Equal(got, b) {
		t.Errorf("Read of all: %v", e)
	}
	want(t, "Flush", d.Flush(), api.OK)
	if !bytes.Equal(d.Image(), b) {
		t.Errorf("Image of all")
	}
}

// P1.2

func TestLimit(t *testing.T) {
	d := made(t, 2)
	d.Limit(3)
	want(t, "Write", d.Write(0, fill(1)), api.OK)
	want(t, "Flush", d.Flush(), api.OK)
	want(t, "Write", d.Write(0, fill(2, 3)), api.OK)
	want(t, "Off at the limit", d.Off(), false)
	wantRead(t, d, 0, 2, 3)
	want(t, "Flush behind the limit", d.Flush(), api.ErrOff)
	want(t, "Off", d.Off(), true)
	want(t, "Calls", d.Calls(), 3)
	want(t, "Waiting", d.Waiting(), 2)
	wantImage(t, d, 1, 0)
}

func TestLimitOfWrite(t *testing.T) {
	d := made(t, 2)
	d.Limit(0)
	want(t, "Off", d.Off(), false)
	want(t, "Write", d.Write(0, fill(1)), api.ErrOff)
	want(t, "Off", d.Off(), true)
	want(t, "Waiting", d.Waiting(), 0)
	want(t, "Calls", d.Calls(), 0)
	d = made(t, 2)
	d.Limit(0)
	want(t, "Write of none", d.Write(2, nil), api.ErrOff)
	want(t, "Off", d.Off(), true)
}

func TestRefusedCallsAreNotLimited(t *testing.T) {
	d := made(t, 2)
	d.Limit(1)
	want(t, "Write", d.Write(0, fill(1)[1:]), api.ErrArg)
	want(t, "Write", d.Write(2, fill(1)), api.ErrRange)
	want(t, "Write", d.Write(0, fill(1)), api.OK)
	want(t, "Write at the limit", d.Write(0, fill(1)[1:]), api.ErrArg)
	want(t, "Write at the limit", d.Write(2, fill(1)), api.ErrRange)
	want(t, "Off", d.Off(), false)
	want(t, "Calls", d.Calls(), 1)
	want(t, "Write at the limit", d.Write(0, fill(1)), api.ErrOff)
	want(t, "Off", d.Off(), true)
}

func TestLimitAnew(t *testing.T) {
	d := made(t, 1)
	for _, calls := range []int{-1, -5, math.MinInt} {
		d.Limit(0)
		d.Limit(calls)
		for range 20 {
			want(t, "Flush without a limit", d.Flush(), api.OK)
		}
	}
	d.Limit(1)
	d.Limit(2)
	want(t, "Flush", d.Flush(), api.OK)
	want(t, "Flush", d.Flush(), api.OK)
	want(t, "Flush", d.Flush(), api.ErrOff)
	want(t, "Calls", d.Calls(), 62)
	d = made(t, 1)
	d.Limit(math.MaxInt)
	want(t, "Flush", d.Flush(), api.OK)
	d.Limit(0)
	want(t, "Flush", d.Flush(), api.ErrOff)
}

func TestOff(t *testing.T) {
	d := made(t, 3)
	want(t, "Write", d.Write(0, fill(1, 2)), api.OK)
	want(t, "Flush", d.Flush(), api.OK)
	want(t, "Write", d.Write(1, fill(3, 4)), api.OK)
	d.Limit(0)
	want(t, "Flush", d.Flush(), api.ErrOff)
	for _, calls := range []int{5, 0, -1} {
		d.Limit(calls)
		if b, e := d.Read(0, 1); len(b) != 0 || e != api.ErrOff {
			t.Errorf("Read: %v, %v", b, e)
		}
		if b, e := d.Read(-1, 1); len(b) != 0 || e != api.ErrOff {
			t.Errorf("Read: %v, %v", b, e)
		}
		want(t, "Write", d.Write(0, fill(1)), api.ErrOff)
		want(t, "Write", d.Write(0, fill(1)[1:]), api.ErrOff)
		want(t, "Write", d.Write(9, fill(1)), api.ErrOff)
		want(t, "Flush", d.Flush(), api.ErrOff)
		want(t, "Off", d.Off(), true)
		want(t, "Size", d.Size(), 3)
		want(t, "Waiting", d.Waiting(), 2)
		want(t, "Calls", d.Calls(), 3)
	}
	wantImage(t, d, 1, 2, 0)
	d.Crash([]bool{false, true})
	want(t, "Off", d.Off(), false)
	want(t, "Waiting", d.Waiting(), 0)
	want(t, "Calls: a crash forgets none", d.Calls(), 3)
	wantRead(t, d, 0, 1, 2, 4)
}

func TestCrash(t *testing.T) {
	for _, x := range []struct {
		keep  []bool
		stays []byte
	}{
		{nil, []byte{9, 9, 9}},
		{[]bool{}, []byte{9, 9, 9}},
		{[]bool{true}, []byte{1, 9, 9}},
		{[]bool{false, true}, []byte{9, 2, 9}},
		{[]bool{false, true, true}, []byte{9, 3, 9}},
		{[]bool{false, false, true}, []byte{9, 3, 9}},
		{[]bool{true, true, false, true}, []byte{1, 2, 4}},
		{[]bool{true, true, true, true, true, true}, []byte{1, 3, 4}},
	} {
		d := made(t, 3)
		d.Write(0, fill(9, 9, 9))
		d.Flush()
		d.Write(0, fill(1, 2))
		d.Write(1, fill(3, 4))
		d.Crash(x.keep)
		wantImage(t, d, x.stays...)
		wantRead(t, d, 0, x.stays...)
		want(t, "Waiting", d.Waiting(), 0)
		want(t, "Flush", d.Flush(), api.OK)
		wantImage(t, d, x.stays...)
	}
}

func TestCrashEndsTheLimit(t *testing.T) {
	d := made(t, 1)
	d.Limit(1)
	d.Crash(nil)
	for range 5 {
		want(t, "Flush", d.Flush(), api.OK)
	}
	d.Limit(0)
	d.Flush()
	d.Crash([]bool{true})
	for range 5 {
		want(t, "Write", d.Write(0, fill(1)), api.OK)
	}
	want(t, "Calls", d.Calls(), 10)
}

// P1.3

func TestTurn(t *testing.T) {
	d := made(t, 2)
	for _, x := range []struct{ at, bit int }{
		{-1, 0}, {2, 0}, {math.MaxInt, 0}, {math.MinInt, 0}, {0, -1}, {0, 512}, {1, math.MaxInt}, {1, math.MinInt}, {2, 512},
	} {
		want(t, "Turn", d.Turn(x.at, x.bit), api.ErrRange)
	}
	wantImage(t, d, 0, 0)
	for at := range 2 {
		for bit := range 512 {
			wanted := make([]byte, 128)
			wanted[64*at+bit/8] = 1 << (bit % 8)
			want(t, "Turn", d.Turn(at, bit), api.OK)
			if b, _ := d.Read(0, 2); !bytes.Equal(d.Image(), wanted) || !bytes.Equal(b, wanted) {
				t.Fatalf("Turn(%d, %d)", at, bit)
			}
			want(t, "Turn back", d.Turn(at, bit), api.OK)
			wantImage(t, d, 0, 0)
		}
	}
	want(t, "Calls", d.Calls(), 0)
}

func TestTurnBelowWhatWaits(t *testing.T) {
	d := made(t, 2)
	d.Write(0, fill(5))
	d.Limit(0)
	d.Flush()
	want(t, "Turn, off", d.Turn(0, 3), api.OK)
	want(t, "Turn, off", d.Turn(1, 511), api.OK)
	want(t, "Off", d.Off(), true)
	want(t, "Turn, off", d.Turn(2, 0), api.ErrRange)
	b := d.Image()
	if b[0] != 8 || b[1] != 0 || b[127] != 128 {
		t.Errorf("Image: %v", b)
	}
	d.Crash(nil)
	if b, _ := d.Read(0, 2); b[0] != 8 || b[127] != 128 {
		t.Errorf("Read: %v", b)
	}
	d.Write(0, fill(6))
	d.Turn(0, 0)
	wantRead(t, d, 0, 6)
	d.Flush()
	wantRead(t, d, 0, 6)
}

// P1.4

func TestFlushedStays(t *testing.T) {
	d := made(t, 2)
	d.Write(0, fill(1, 2))
	d.Flush()
	for _, keep := range [][]bool{nil, {true}, {false, false}, {true, true, true}} {
		d.Limit(0)
		d.Write(0, fill(8, 8))
		d.Crash(keep)
		wantRead(t, d, 0, 1, 2)
	}
	d.Write(0, fill(3))
	d.Crash([]bool{false})
	wantRead(t, d, 0, 1, 2)
	d.Write(0, fill(3))
	d.Crash([]bool{true})
	wantRead(t, d, 0, 3, 2)
}

func TestMemoryIsNotShared(t *testing.T) {
	d := made(t, 2)
	b := append(make([]byte, 0, 256), fill(1, 2)...)
	spare := b[128:256]
	for i := range spare {
		spare[i] = 77
	}
	d.Write(0, b)
	if !bytes.Equal(b, fill(1, 2)) || !bytes.Equal(spare, fill(77, 77)) {
		t.Errorf("what was handed in is changed")
	}
	clear(b)
	wantRead(t, d, 0, 1, 2)
	spoil := func(b []byte) {
		b = b[:cap(b)]
		for i := range b {
			b[i] = 99
		}
	}
	seen, _ := d.Read(0, 1)
	spoil(seen)
	wantRead(t, d, 0, 1, 2)
	d.Flush()
	spoil(d.Image())
	seen, _ = d.Read(0, 0)
	spoil(seen)
	seen, _ = d.Read(0, 2)
	spoil(seen)
	wantRead(t, d, 0, 1, 2)
	wantImage(t, d, 1, 2)

	seen, _ = d.Read(0, 2)
	image := d.Image()
	d.Write(0, fill(5, 5))
	d.Flush()
	d.Turn(1, 1)
	if !bytes.Equal(seen, fill(1, 2)) || !bytes.Equal(image, fill(1, 2)) {
		t.Errorf("an answer is changed by a later call")
	}

	keep := append(make([]bool, 0, 4), true, false)
	d.Write(0, fill(6, 7))
	d.Crash(keep)
	if !slices.Equal(keep[:4], []bool{true, false, false, false}) {
		t.Errorf("keep is changed: %v", keep[:4])
	}
}

func TestSpareRoomOfKeepIsNotRead(t *testing.T) {
	d := made(t, 2)
	d.Write(0, fill(6, 7))
	d.Crash([]bool{true, true}[:1])
	wantRead(t, d, 0, 6, 0)
}

func TestDevicesAreApart(t *testing.T) {
	a, b := made(t, 1), made(t, 1)
	a.Write(0, fill(1))
	a.Flush()
	a.Limit(0)
	a.Flush()
	wantRead(t, b, 0, 0)
	want(t, "Calls", b.Calls(), 0)
	want(t, "Off", b.Off(), false)
}

func TestNil(t *testing.T) {
	var d *dev.Dev
	d.Limit(0)
	d.Limit(-1)
	d.Crash(nil)
	d.Crash([]bool{true})
	for _, at := range []int{-1, 0, 1} {
		if b, e := d.Read(at, at); len(b) != 0 || e != api.ErrNil {
			t.Errorf("Read: %v, %v", b, e)
		}
		want(t, "Write", d.Write(at, nil), api.ErrNil)
		want(t, "Write", d.Write(at, make([]byte, 63)), api.ErrNil)
		want(t, "Turn", d.Turn(at, at), api.ErrNil)
	}
	want(t, "Flush", d.Flush(), api.ErrNil)
	want(t, "Size", d.Size(), 0)
	want(t, "Waiting", d.Waiting(), 0)
	want(t, "Calls", d.Calls(), 0)
	want(t, "Off", d.Off(), false)
	want(t, "Image", len(d.Image()), 0)
}

// plain is a device as the chapter's words tell it, without regard to cost: a log of all that was laid down.
type plain struct {
	stay   map[int][]byte
	wait   []int
	bytes  [][]byte
	limit  int
	calls  int
	off    bool
	length int
}

func (p *plain) read(at, n int) []byte {
	var b []byte
	for i := at; i < at+n; i++ {
		s := make([]byte, api.Sector)
		copy(s, p.stay[i])
		for k, w := range p.wait {
			if w == i {
				copy(s, p.bytes[k])
			}
		}
		b = append(b, s...)
	}
	return b
}

func (p *plain) goes() bool {
	if p.off || p.limit == 0 {
		p.off = true
		return false
	}
	p.limit--
	p.calls++
	return true
}

func (p *plain) end(keep func(int) bool) {
	for k, w := range p.wait {
		if keep(k) {
			p.stay[w] = p.bytes[k]
		}
	}
	p.wait, p.bytes = nil, nil
}

func (p *plain) image() []byte {
	return (&plain{stay: p.stay}).read(0, p.length)
}

func TestAgainstPlainDevice(t *testing.T) {
	for seed := range int64(200) {
		r := rand.New(rand.NewSource(seed))
		n := 1 + r.Intn(6)
		d, p := made(t, n), &plain{stay: map[int][]byte{}, limit: -1, length: n}
		for range 200 {
			step(t, r, d, p)
			if t.Failed() {
				t.Fatalf("seed %d", seed)
			}
		}
	}
}

func step(t *testing.T, r *rand.Rand, d *dev.Dev, p *plain) {
	t.Helper()
	at := r.Intn(p.length)
	n := r.Intn(p.length - at + 1)
	goes := func() api.Errno {
		if p.goes() {
			return api.OK
		}
		return api.ErrOff
	}
	switch r.Intn(10) {
	case 0, 1, 2, 3:
		b := make([]byte, n*api.Sector)
		r.Read(b)
		e := goes()
		want(t, "Write", d.Write(at, b), e)
		for i := 0; i < n && e == api.OK; i++ {
			p.wait = append(p.wait, at+i)
			p.bytes = append(p.bytes, slices.Clone(b[i*api.Sector:(i+1)*api.Sector]))
		}
	case 4:
		e := goes()
		want(t, "Flush", d.Flush(), e)
		if e == api.OK {
			p.end(func(int) bool { return true })
		}
	case 5:
		p.limit = r.Intn(20) - 2
		d.Limit(p.limit)
	case 6:
		keep := make([]bool, r.Intn(len(p.wait)+3))
		for i := range keep {
			keep[i] = r.Intn(2) == 0
		}
		d.Crash(keep)
		p.end(func(i int) bool { return i < len(keep) && keep[i] })
		p.off, p.limit = false, -1
	case 7:
		bit := r.Intn(512)
		want(t, "Turn", d.Turn(at, bit), api.OK)
		s := make([]byte, api.Sector)
		copy(s, p.stay[at])
		s[bit/8] ^= 1 << (bit % 8)
		p.stay[at] = s
	}
	b, e := d.Read(at, n)
	if p.off && (e != api.ErrOff || len(b) != 0) || !p.off && (e != api.OK || !bytes.Equal(b, p.read(at, n))) {
		t.Errorf("Read(%d, %d): %v", at, n, e)
	}
	if !bytes.Equal(d.Image(), p.image()) {
		t.Errorf("Image")
	}
	want(t, "Waiting", d.Waiting(), len(p.wait))
	want(t, "Calls", d.Calls(), p.calls)
	want(t, "Off", d.Off(), p.off)
	want(t, "Size", d.Size(), p.length)
}
