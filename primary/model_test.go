package primary_test

import (
	"bytes"
	"fmt"
	"maps"
	"math/rand"
	"slices"
	"testing"

	"breviary/api"
	"breviary/image"
	"breviary/primary"
)

// plain is a store as the chapter tells it, without a device.
type plain struct {
	shape  api.Shape
	status api.Status
	low    int // the control's
	disk   []byte
	marks  []int
	open   map[int]map[int]byte
	last   int // the last handle
}

func newPlain(s api.Shape) *plain {
	p := &plain{shape: s, status: api.Status{Timeline: 1, Epoch: 1, End: s.Size + 1, Redo: s.Size, Keep: 1}, low: 1}
	p.disk = make([]byte, 64*s.Blocks)
	p.forget()
	return p
}

// forget: all blocks may have changed in the last commit, and no transaction is open.
func (p *plain) forget() {
	p.marks = slices.Repeat([]int{p.status.Number}, p.shape.Blocks)
	p.open = map[int]map[int]byte{}
	p.status.Open = 0
}

func (p *plain) clone() *plain {
	q := *p
	q.disk, q.marks, q.open = bytes.Clone(p.disk), slices.Clone(p.marks), maps.Clone(p.open)
	for h, w := range q.open {
		q.open[h] = maps.Clone(w)
	}
	return &q
}

// full: is the segment n, which the log wants to begin, wanted still?
func (p *plain) full(n int) bool {
	low := min(p.status.Redo/p.shape.Size, p.status.Keep)
	return n >= low+p.shape.Segments
}

func (p *plain) begin() (int, api.Errno) {
	if len(p.open) == 8 {
		return 0, api.ErrMany
	}
	p.last++
	p.open[p.last] = map[int]byte{}
	p.status.Open++
	return p.last, api.OK
}

func (p *plain) write(h, n, length int, b byte) api.Errno {
	switch {
	case p.open[h] == nil:
		return api.ErrHandle
	case n < 0 || n >= p.shape.Blocks:
		return api.ErrBlock
	case length != 64:
		return api.ErrSize
	}
	p.open[h][n] = b
	return api.OK
}

func (p *plain) read(h, n int) ([]byte, api.Errno) {
	if p.open[h] == nil {
		return nil, api.ErrHandle
	}
	if b, ok := p.open[h][n]; ok {
		return block(b), api.OK
	}
	return p.get(n)
}

func (p *plain) get(n int) ([]byte, api.Errno) {
	if n < 0 || n >= p.shape.Blocks {
		return nil, api.ErrBlock
	}
	return p.disk[64*n : 64*n+64], api.OK
}

func (p *plain) abort(h int) api.Errno {
	if p.open[h] == nil {
		return api.ErrHandle
	}
	delete(p.open, h)
	p.status.Open--
	return api.OK
}

func (p *plain) commit(h int) (int, api.Errno) {
	if p.open[h] == nil {
		return 0, api.ErrHandle
	}
	if p.status.Number == mostCommit {
		return 0, api.ErrSpent
	}
	n, size, end := sectorsOf(len(p.open[h])), p.shape.Size, p.status.End
	if n > size-2 {
		return 0, api.ErrSize
	}
	if end%size+n > size-1 {
		end = end/size*size + size + 1
		if p.full(end / size) {
			return 0, api.ErrLog
		}
	}
	p.status.End = end + n
	p.status.Number++
	for k, b := range p.open[h] {
		copy(p.disk[64*k:], block(b))
		p.marks[k] = p.status.Number
	}
	return p.status.Number, p.abort(h)
}

func (p *plain) checkpoint() api.Errno {
	p.status.Redo, p.low = p.status.End, p.status.Keep
	return api.OK
}

func (p *plain) turn() api.Errno {
	size := p.shape.Size
	next := p.status.End/size + 1
	if p.status.End%size == 1 {
		return api.ErrTurn
	}
	if p.full(next) {
		return api.ErrLog
	}
	p.status.End = next*size + 1
	return api.OK
}

func (p *plain) keep(n int) {
	p.status.Keep = min(max(n, 0), mostSegment)
}

func (p *plain) swap(b []byte, timeline, number int) api.Errno {
	if len(b) != len(p.disk) || timeline < 1 || timeline > mostTimeline || number < 0 || number > mostCommit {
		return api.ErrArg
	}
	next := p.status.End/p.shape.Size + 1
	if p.full(next) {
		return api.ErrLog
	}
	p.disk = bytes.Clone(b)
	p.status.Timeline, p.status.Number, p.status.Area = timeline, number, 1-p.status.Area
	p.status.Redo, p.status.Keep, p.low = next*p.shape.Size, next, next
	p.status.End = p.status.Redo + 1
	p.forget()
	return api.OK
}

// reopen behind a crash that lost nothing.
func (p *plain) reopen() {
	p.status.Epoch++
	p.status.Keep, p.last = p.low, 0
	p.forget()
}

func (p *plain) closed() []int {
	var l []int
	for n := range p.status.End / p.shape.Size {
		if n >= p.status.Keep && n > p.status.End/p.shape.Size-p.shape.Segments {
			l = append(l, n)
		}
	}
	return l
}

func (p *plain) since(n int) []int {
	var l []int
	for k, m := range p.marks {
		if m > n {
			l = append(l, k)
		}
	}
	return l
}

// pair of a store and a plain one, side by side.
type pair struct {
	*rig
	p    *plain
	rand *rand.Rand
	log  []string
}

func newPair(t *testing.T, seed int64) *pair {
	t.Helper()
	k := rand.New(rand.NewSource(seed))
	s := api.Shape{Blocks: 1 + k.Intn(6), Segments: 3 + k.Intn(3), Size: 4 + k.Intn(12)}
	return &pair{rig: formatted(t, s), p: newPlain(s), rand: k}
}

// alike: both tell the same of all.
func (x *pair) alike() {
	x.t.Helper()
	x.wantStatus("alike", x.p.status)
	x.wantDisk("alike", x.p.disk)
	wantList(x.t, "alike: Closed", x.s.Closed(), x.p.closed()...)
	for range 2 {
		n := x.p.status.Number - x.rand.Intn(8)
		wantList(x.t, "alike: Since", x.s.Since(n), x.p.since(n)...)
	}
	if x.t.Failed() {
		x.t.Fatalf("%v: %v", x.shape, x.log)
	}
}

// act is one call, on both: two functions that tell a result and an error.
type act struct {
	name         string
	store, plain func() (string, api.Errno)
}

func told1(e api.Errno) (string, api.Errno) { return "", e }

func told2[T any](x T, e api.Errno) (string, api.Errno) { return fmt.Sprint(x), e }

// any act, with arguments that are mostly right.
func (x *pair) any() act {
	k, s, p := x.rand, x.s, x.p
	h := p.last - k.Intn(4) + k.Intn(2)
	n, b := k.Intn(x.shape.Blocks+1)-k.Intn(8)/7, byte(k.Intn(255))
	switch k.Intn(20) {
	case 0, 1, 2, 3:
		return act{"Begin", func() (string, api.Errno) { return told2(s.Begin()) }, func() (string, api.Errno) { return told2(p.begin()) }}
	case 4, 5, 6, 7, 8:
		length := 64 - k.Intn(30)/29
		return act{fmt.Sprint("Write", h, n, b), func() (string, api.Errno) { return told1(s.Write(h, n, block(b)[:length])) }, func() (string, api.Errno) { return told1(p.write(h, n, length, b)) }}
	case 9:
		return act{fmt.Sprint("Read", h, n), func() (string, api.Errno) { return told2(s.Read(h, n)) }, func() (string, api.Errno) { return told2(p.read(h, n)) }}
	case 10:
		return act{fmt.Sprint("Get", n), func() (string, api.Errno) { return told2(s.Get(n)) }, func() (string, api.Errno) { return told2(p.get(n)) }}
	case 11, 12, 13, 14:
		return act{fmt.Sprint("Commit", h), func() (string, api.Errno) { return told2(s.Commit(h)) }, func() (string, api.Errno) { return told2(p.commit(h)) }}
	case 15:
		return act{fmt.Sprint("Abort", h), func() (string, api.Errno) { return told1(s.Abort(h)) }, func() (string, api.Errno) { return told1(p.abort(h)) }}
	case 16:
		return act{"Checkpoint", func() (string, api.Errno) { return told1(s.Checkpoint()) }, func() (string, api.Errno) { return told1(p.checkpoint()) }}
	case 17:
		return act{"Turn", func() (string, api.Errno) { return told1(s.Turn()) }, func() (string, api.Errno) { return told1(p.turn()) }}
	case 18:
		segment := p.status.End/x.shape.Size + 1 - k.Intn(4)
		return act{fmt.Sprint("Keep", segment), func() (string, api.Errno) { s.Keep(segment); return "", api.OK }, func() (string, api.Errno) { p.keep(segment); return "", api.OK }}
	}
	return x.swapping(n)
}

// swapping acts: now and then of a disk or of numbers that are wrong.
func (x *pair) swapping(n int) act {
	k, s, p := x.rand, x.s, x.p
	blocks := x.shape.Blocks - k.Intn(16)/15
	var l []byte
	for range blocks {
		l = append(l, block(byte(k.Intn(256)))...)
	}
	timeline, number := k.Intn(10), k.Intn(2)*p.status.Number+k.Intn(30)-1
	if k.Intn(20) == 0 {
		number = mostCommit - k.Intn(3)
	}
	disk, _ := image.From(l)
	return act{fmt.Sprint("Swap", blocks, timeline, number), func() (string, api.Errno) { return told1(s.Swap(disk, timeline, number)) }, func() (string, api.Errno) { return told1(p.swap(l, timeline, number)) }}
}

func TestStoresAtRandom(t *testing.T) {
	for seed := range int64(200) {
		x := newPair(t, seed)
		for range 400 {
			if x.rand.Intn(60) == 0 {
				x.log = append(x.log, "Open")
				x.d.Crash(nil)
				x.open()
				x.p.reopen()
			}
			a := x.any()
			x.log = append(x.log, a.name)
			calls := x.d.Calls()
			got, e := a.store()
			wanted, f := a.plain()
			want(t, a.name, e, f)
			if e == api.OK {
				want(t, a.name, got, wanted)
			} else {
				want(t, a.name+": calls of the device", x.d.Calls(), calls)
			}
			x.alike()
		}
	}
}

// TestCrashesAtRandom: a device that goes off in any act, and in the opening behind it; any of what waits is left.
func TestCrashesAtRandom(t *testing.T) {
	for seed := range int64(300) {
		x := newPair(t, 1000+seed)
		for range 8 {
			x.d.Limit(x.rand.Intn(50))
			was, under := x.upToTheCrash()
			x.crash()
			for x.rand.Intn(3) == 0 {
				x.d.Limit(x.rand.Intn(4))
				if _, e := primary.Open(x.d, x.shape); e != api.OK && e != api.ErrOff {
					t.Fatalf("Open: %v: %v", e, x.log)
				}
				x.crash()
				x.log = append(x.log, "Open, crash")
			}
			x.takeUp(was, under)
		}
	}
}

// upToTheCrash acts till the device goes off: the plain store ahead of the act that was under way, and behind it.
func (x *pair) upToTheCrash() (*plain, *plain) {
	x.t.Helper()
	for {
		if x.d.Off() {
			return x.p, x.p
		}
		was := x.p.clone()
		a := x.any()
		x.log = append(x.log, a.name)
		_, e := a.store()
		_, f := a.plain()
		if e == api.ErrOff {
			return was, x.p
		}
		want(x.t, a.name, e, f)
		x.alike()
		if x.rand.Intn(200) == 0 {
			return x.p, x.p
		}
	}
}

// crash: any of what waits is left.
func (x *pair) crash() {
	keep := make([]bool, x.d.Waiting())
	for i := range keep {
		keep[i] = x.rand.Intn(3) > 0
	}
	x.log = append(x.log, fmt.Sprint("crash", keep))
	x.d.Crash(keep)
}

// takeUp the one of two plain stores that the opened one is: the log's end, of which a crash may leave some, is the store's.
func (x *pair) takeUp(was, under *plain) {
	x.t.Helper()
	x.open()
	st, w := x.s.Status(), x.world()
	at := func(p *plain) bool {
		return w == world{p.status.Timeline, p.status.Number, string(p.disk)} && st.Area == p.status.Area
	}
	x.p = was
	if !at(was) || at(under) && st.Redo == under.status.Redo {
		x.p = under
	}
	of := func(p *plain) bool { return st.Redo == p.status.Redo && st.Keep == p.low }
	if !at(x.p) || !of(was) && !of(under) || st.Epoch <= x.p.status.Epoch || st.End < st.Redo || st.End > under.status.End {
		x.t.Fatalf("%v: %v: %v, %v, wanted (%d, %d) or (%d, %d)", x.shape, x.log, st, w, was.status.Timeline, was.status.Number, under.status.Timeline, under.status.Number)
	}
	x.p.low = st.Keep
	x.p.reopen()
	x.p.status.Epoch, x.p.status.End, x.p.status.Redo = st.Epoch, st.End, st.Redo
	x.log = append(x.log, "Open")
	x.alike()
}
