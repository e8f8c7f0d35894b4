package ring_test

import (
	"bytes"
	"encoding/binary"
	"fmt"
	"hash/crc32"
	"math"
	"math/rand"
	"slices"
	"testing"

	"breviary/api"
	"breviary/dev"
	"breviary/frame"
	"breviary/record"
	"breviary/ring"
)

const (
	mostLsn     = 1 << 61
	mostSegment = 1 << 40
	mostEpoch   = 1<<32 - 1
)

var allEpochs = [2]int{0, mostEpoch}

func head(timeline, number int) api.Record {
	return api.Record{Kind: 1, Timeline: timeline, Number: number}
}

func switched() api.Record {
	return api.Record{Kind: 2}
}

// commit of so many writes, whose bytes are told by its number.
func commit(number, writes int) api.Record {
	r := api.Record{Kind: 3, Timeline: 1, Number: number}
	for block := range writes {
		b := make([]byte, 64)
		rand.New(rand.NewSource(int64(100*number + block))).Read(b)
		r.Writes = append(r.Writes, api.Write{Block: block, B: b})
	}
	return r
}

// sectorsOf so many writes a commit takes: 15 bytes and 66 of each, 40 in a sector.
func sectorsOf(writes int) int {
	return (15 + 66*writes + 39) / 40
}

// at is the entry of a record at a place.
func at(lsn, epoch int, r api.Record) api.Entry {
	n := 1
	if r.Kind == 3 {
		n = sectorsOf(len(r.Writes))
	}
	return api.Entry{Lsn: lsn, Epoch: epoch, Sectors: n, R: r}
}

// inRow lays records one behind the other, from a place on.
func inRow(lsn, epoch int, l ...api.Record) []api.Entry {
	var row []api.Entry
	for _, r := range l {
		x := at(lsn, epoch, r)
		row = append(row, x)
		lsn += x.Sectors
	}
	return row
}

func framesOf(x api.Entry) []byte {
	return frame.Spread(x.Lsn, x.Epoch, record.Put(x.R))
}

// segment is bytes of so many sectors with the entries in them, the later over the elder, cut at the end.
func segment(size int, l ...api.Entry) []byte {
	b := make([]byte, 64*size)
	for _, x := range l {
		copy(b[x.Lsn%size*64:], framesOf(x))
	}
	return b
}

func alikeRecords(a, b api.Record) bool {
	return a.Kind == b.Kind && a.Timeline == b.Timeline && a.Number == b.Number &&
		slices.EqualFunc(a.Writes, b.Writes, func(v, w api.Write) bool { return v.Block == w.Block && string(v.B) == string(w.B) })
}

func alike(a, b []api.Entry) bool {
	return slices.EqualFunc(a, b, func(x, y api.Entry) bool {
		return x.Lsn == y.Lsn && x.Epoch == y.Epoch && x.Sectors == y.Sectors && alikeRecords(x.R, y.R)
	})
}

// short tells entries in a few letters.
func short(l []api.Entry) string {
	s := "["
	for _, x := range l {
		s += fmt.Sprintf(" %d:%d+%d kind %d (%d, %d) %d writes", x.Lsn, x.Epoch, x.Sectors, x.R.Kind, x.R.Timeline, x.R.Number, len(x.R.Writes))
	}
	return s + " ]"
}

func wantEntries(t *testing.T, what string, got, wanted []api.Entry) {
	t.Helper()
	if !alike(got, wanted) {
		t.Errorf("%s: %s, wanted %s", what, short(got), short(wanted))
	}
}

func wantWalk(t *testing.T, what string, b []byte, lsn int, epochs [2]int, wanted []api.Entry) {
	t.Helper()
	wantEntries(t, what, slices.Collect(ring.Walk(b, lsn, epochs)), wanted)
}

func want[T comparable](t *testing.T, what string, got, wanted T) {
	t.Helper()
	if got != wanted {
		t.Errorf("%s: %v, wanted %v", what, got, wanted)
	}
}

func device(t *testing.T, sectors int) *dev.Dev {
	t.Helper()
	d, e := dev.New(sectors)
	if e != api.OK {
		t.Fatalf("a device of %d: %v", sectors, e)
	}
	return d
}

// rig is a log on a device that has a sector more on either side of it.
type rig struct {
	t              *testing.T
	d              *dev.Dev
	l              *ring.Log
	segments, size int
}

func logOf(t *testing.T, segments, size int) *rig {
	t.Helper()
	d := device(t, segments*size+2)
	l, e := ring.New(d, 1, segments, size)
	if e != api.OK || l == nil {
		t.Fatalf("New: %v", e)
	}
	return &rig{t, d, l, segments, size}
}

// started is one with the segment begun, in the epoch 1.
func started(t *testing.T, segments, size, segment int) *rig {
	t.Helper()
	g := logOf(t, segments, size)
	want(t, "Start", g.l.Start(segment, 1, 1, 1), api.OK)
	return g
}

// sector of the device where a place is.
func (g *rig) sector(lsn int) int {
	return 1 + lsn/g.size%g.segments*g.size + lsn%g.size
}

// lay writes entries past the log.
func (g *rig) lay(l ...api.Entry) {
	g.t.Helper()
	for _, x := range l {
		want(g.t, "Write", g.d.Write(g.sector(x.Lsn), framesOf(x)), api.OK)
	}
}

func (g *rig) all() []byte {
	g.t.Helper()
	b, e := g.d.Read(0, g.d.Size())
	want(g.t, "Read", e, api.OK)
	return b
}

// wantLaid: nothing but these entries is on the device.
func (g *rig) wantLaid(what string, l ...api.Entry) {
	g.t.Helper()
	b := make([]byte, 64*g.d.Size())
	for _, x := range l {
		copy(b[64*g.sector(x.Lsn):], framesOf(x))
	}
	if !bytes.Equal(g.all(), b) {
		g.t.Errorf("%s: what is on the device isn't %s", what, short(l))
	}
}

func (g *rig) wantAdd(what string, r api.Record, epoch, low, place int) {
	g.t.Helper()
	got, e := g.l.Add(r, epoch, low)
	if e != api.OK || got != place {
		g.t.Errorf("%s: Add %d %v, wanted %d", what, got, e, place)
	}
	want(g.t, what+": End", g.l.End(), place+sectorsOf(len(r.Writes)))
}

// wantNoAdd: the error, and nothing is changed.
func (g *rig) wantNoAdd(what string, r api.Record, epoch, low int, wanted api.Errno) {
	g.t.Helper()
	g.wantSame(what, func() {
		got, e := g.l.Add(r, epoch, low)
		if e != wanted || got != 0 {
			g.t.Errorf("%s: Add %d %v, wanted %v", what, got, e, wanted)
		}
	})
}

func (g *rig) wantNoTurn(what string, epoch, low, timeline, number int, wanted api.Errno) {
	g.t.Helper()
	g.wantSame(what, func() {
		want(g.t, what+": Turn", g.l.Turn(epoch, low, timeline, number), wanted)
	})
}

// wantSame: the call leaves the log and what is on the device, which isn't off, as they were.
func (g *rig) wantSame(what string, call func()) {
	g.t.Helper()
	end, fresh, calls, was := g.l.End(), g.l.Fresh(), g.d.Calls(), g.all()
	call()
	want(g.t, what+": End", g.l.End(), end)
	want(g.t, what+": Fresh", g.l.Fresh(), fresh)
	want(g.t, what+": Calls", g.d.Calls(), calls)
	if !bytes.Equal(g.all(), was) {
		g.t.Errorf("%s: what is on the device is changed", what)
	}
}

func (g *rig) wantOpen(what string, lsn, epoch, end int, wanted []api.Entry) {
	g.t.Helper()
	calls := g.d.Calls()
	got, e := g.l.Open(lsn, epoch)
	want(g.t, what+": Open", e, api.OK)
	wantEntries(g.t, what, got, wanted)
	want(g.t, what+": End", g.l.End(), end)
	want(g.t, what+": Fresh", g.l.Fresh(), end%g.size == 1)
	want(g.t, what+": Calls", g.d.Calls(), calls)
}

// P8.1

// full is the segment 2 of 16 sectors: its entries, and a commit that is left behind its switch.
func full() ([]api.Entry, api.Entry) {
	return inRow(32, 4, head(1, 5), commit(5, 1), commit(6, 0), commit(7, 2), switched()), at(42, 4, commit(8, 0))
}

func TestWalkFromEachPlace(t *testing.T) {
	l, left := full()
	b := segment(16, append(slices.Clone(l), left)...)
	for lsn := range 64 {
		var wanted []api.Entry
		for i, x := range l {
			if x.Lsn == lsn {
				wanted = l[i:]
			}
		}
		if lsn == left.Lsn {
			wanted = []api.Entry{left}
		}
		wantWalk(t, fmt.Sprintf("from %d", lsn), b, lsn, allEpochs, wanted)
	}
}

func TestWalkOfWrongLengths(t *testing.T) {
	l, _ := full()
	b := segment(16, l...)
	wantWalk(t, "nil", nil, 32, allEpochs, nil)
	wantWalk(t, "no bytes", []byte{}, 32, allEpochs, nil)
	for n := range len(b) {
		var wanted []api.Entry // cut at a sector, of another size, the place 32 is in its sector 0 only if that divides it
		if size := n / 64; n%64 == 0 && n > 0 && 32%size == 0 {
			wanted = cutTo(l, 32+size)
		}
		wantWalk(t, fmt.Sprintf("%d bytes", n), b[:n], 32, allEpochs, wanted)
	}
	for _, more := range []int{1, 32, 63} {
		wantWalk(t, fmt.Sprintf("%d bytes more", more), append(slices.Clone(b), make([]byte, more)...), 32, allEpochs, nil)
	}
}

// cutTo leaves the entries that may be in a segment that ends there.
func cutTo(l []api.Entry, end int) []api.Entry {
	for i, x := range l {
		if x.Lsn+x.Sectors > end || x.R.Kind == 3 && x.Lsn+x.Sectors == end {
			return l[:i]
		}
	}
	return l
}

func TestWalkAtBoundsOfPlaces(t *testing.T) {
	for _, size := range []int{4, 5, 7, 8, 64} {
		for _, lsn := range []int{0, 1, size - 1, size, mostLsn - 1, mostLsn} {
			l := []api.Entry{at(lsn, 0, switched())}
			if lsn%size == 0 {
				l = inRow(lsn, 0, head(1, 1), commit(1, 0), switched())
			}
			wantWalk(t, fmt.Sprintf("size %d, from %d", size, lsn), segment(size, l...), lsn, allEpochs, l)
		}
		for _, lsn := range []int{mostLsn + 1, mostLsn + 2, 1<<62 - 1, 1 << 62, math.MaxInt, -1, -size, math.MinInt} {
			b := make([]byte, 64*size)
			sector := ((lsn % size) + size) % size
			copy(b[64*sector:], framesOf(at(lsn, 0, switched())))
			if sector == 0 {
				copy(b, framesOf(at(lsn, 0, head(1, 1))))
			}
			wantWalk(t, fmt.Sprintf("size %d, from %d", size, lsn), b, lsn, allEpochs, nil)
		}
	}
	// The bound is that of the place from which it begins, not of those behind it.
	l := inRow(mostLsn, 3, commit(1, 0), commit(2, 0), switched())
	wantWalk(t, "beyond 2^61", segment(5, l...), mostLsn, allEpochs, l) // its sector 2
}

func TestWalkEpochs(t *testing.T) {
	l := []api.Entry{at(0, 5, head(1, 1)), at(1, 5, commit(1, 0)), at(2, 7, commit(2, 1)), at(5, 7, commit(3, 0)), at(6, 9, switched())}
	b := segment(8, l...)
	for _, c := range []struct{ least, greatest, n int }{
		{0, mostEpoch, 5}, {5, 9, 5}, {5, 8, 4}, {5, 7, 4}, {5, 6, 2}, {5, 5, 2}, {5, 4, 0}, {0, 4, 0}, {0, 5, 2}, {0, 0, 0},
		{4, 9, 5}, {6, 9, 0}, {6, 6, 0}, {9, 5, 0}, {mostEpoch, mostEpoch, 0}, {-1, 9, 5}, {0, 10, 5},
		{math.MinInt, math.MaxInt, 5}, {math.MinInt, math.MinInt, 0}, {math.MaxInt, math.MaxInt, 0}, {math.MaxInt, math.MinInt, 0}, {0, -1, 0},
	} {
		wantWalk(t, fmt.Sprintf("between %d and %d", c.least, c.greatest), b, 0, [2]int{c.least, c.greatest}, l[:c.n])
	}
	// The least epoch is that of the entries from the place on, not of those ahead of it.
	wantWalk(t, "between 7 and 7 from 2 on", b, 2, [2]int{7, 7}, l[2:4])
	wantWalk(t, "between 6 and 9 from 2 on", b, 2, [2]int{6, 9}, l[2:])
	wantWalk(t, "between 8 and 9 from 2 on", b, 2, [2]int{8, 9}, nil)
	for _, epoch := range []int{0, 1, mostEpoch - 1, mostEpoch} {
		one := inRow(8, epoch, head(1, 1), commit(1, 1), switched())
		wantWalk(t, fmt.Sprintf("of %d", epoch), segment(8, one...), 8, [2]int{epoch, epoch}, one)
		wantWalk(t, fmt.Sprintf("below %d", epoch), segment(8, one...), 8, [2]int{0, epoch - 1}, nil)
		wantWalk(t, fmt.Sprintf("above %d", epoch), segment(8, one...), 8, [2]int{epoch + 1, math.MaxInt}, nil)
	}
}

func TestWalkWhereAnEpochFalls(t *testing.T) {
	for i := 1; i < 5; i++ { // from the i-th entry on the epoch is 4, ahead of it 5
		l := inRow(16, 5, head(1, 1), commit(1, 0), commit(2, 1), commit(3, 0), switched())
		for k := i; k < 5; k++ {
			l[k].Epoch = 4
		}
		b := segment(8, l...)
		wantWalk(t, fmt.Sprintf("it falls at %d", i), b, 16, allEpochs, l[:i])
		wantWalk(t, fmt.Sprintf("it falls at %d, from there on", i), b, l[i].Lsn, allEpochs, l[i:])
	}
	// A record whose own sectors have two epochs doesn't stand there.
	x := at(17, 5, commit(1, 1))
	for i := range x.Sectors {
		b := segment(8, at(16, 5, head(1, 1)), x)
		other := frame.Spread(17, 6, record.Put(x.R))
		copy(b[64*(1+i):], other[64*i:64*(i+1)])
		wantWalk(t, fmt.Sprintf("the sector %d is of another epoch", i), b, 16, allEpochs, []api.Entry{at(16, 5, head(1, 1))})
	}
}

func TestWalkForms(t *testing.T) {
	first := at(16, 1, head(1, 1))
	for what, c := range map[string]struct {
		l []api.Entry // laid in a segment of 8 sectors, the segment 2
		n int         // of them are told
	}{
		"nothing": {nil, 0},
		"a head":  {[]api.Entry{first}, 1},
		"a head of another timeline and number 0": {[]api.Entry{at(16, 1, head(1<<31-1, 0))}, 1},
		"a commit at sector 0":                    {[]api.Entry{at(16, 1, commit(1, 0))}, 0},
		"a commit of three at sector 0":           {[]api.Entry{at(16, 1, commit(1, 1))}, 0},
		"a switch at sector 0":                    {[]api.Entry{at(16, 1, switched())}, 0},
		"a head at sector 1":                      {[]api.Entry{first, at(17, 1, head(1, 1))}, 1},
		"a head behind a commit":                  {inRow(16, 1, head(1, 1), commit(1, 1), head(1, 2)), 2},
		"a head in the last sector":               {inRow(16, 1, head(1, 1), commit(1, 3), head(1, 2)), 2},
		"a switch at sector 1":                    {inRow(16, 1, head(1, 1), switched()), 2},
		"behind a switch":                         {inRow(16, 1, head(1, 1), switched(), commit(1, 0)), 2},
		"a switch behind a switch":                {inRow(16, 1, head(1, 1), commit(1, 0), switched(), switched()), 3},
		"a switch in the last sector":             {inRow(16, 1, head(1, 1), commit(1, 3), switched()), 3},
		"a commit up to the last sector":          {inRow(16, 1, head(1, 1), commit(1, 3)), 2},
		"small commits up to it":                  {inRow(16, 1, head(1, 1), commit(1, 1), commit(2, 1)), 3},
		"a commit in the last sector":             {inRow(16, 1, head(1, 1), commit(1, 3), commit(2, 0)), 2},
		"a commit that reaches the last sector":   {inRow(16, 1, head(1, 1), commit(1, 4)), 1},
		"one that reaches it behind others":       {inRow(16, 1, head(1, 1), commit(1, 1), commit(2, 0), commit(3, 1)), 3},
		"a commit beyond the last sector":         {inRow(16, 1, head(1, 1), commit(1, 5)), 1},
		"a gap":                                   {[]api.Entry{first, at(18, 1, commit(1, 0))}, 1},
		"of the segment ahead":                    {[]api.Entry{first, at(9, 1, commit(1, 0))}, 1},
		"of the segment behind":                   {[]api.Entry{first, at(25, 1, commit(1, 0))}, 1},
		"a head of the segment ahead":             {inRow(8, 1, head(1, 1), commit(1, 0)), 0},
		"a head of the segment behind":            {inRow(24, 1, head(1, 1), commit(1, 0)), 0},
		"numbers that fall, other timelines":      {inRow(16, 1, head(5, 9), commit(7, 0), commit(3, 0), switched()), 4},
	} {
		wantWalk(t, what, segment(8, c.l...), 16, allEpochs, c.l[:c.n])
	}
}

// From a place that isn't sector 0 no head is needed ahead of it; at sector 0 nothing else than a head is told.
func TestWalkFromAMiddlePlace(t *testing.T) {
	l := inRow(18, 1, commit(1, 0), commit(2, 1), switched())
	wantWalk(t, "from sector 2", segment(8, l...), 18, allEpochs, l)
	wantWalk(t, "from sector 0", segment(8, l...), 16, allEpochs, nil)
	last := at(23, 1, switched())
	wantWalk(t, "from the last sector", segment(8, last), 23, allEpochs, []api.Entry{last})
	// What stands in sector 0 isn't behind the last sector.
	b := segment(8, last, at(24, 1, head(1, 1)))
	wantWalk(t, "the next segment's head in sector 0", b, 23, allEpochs, []api.Entry{last})
	reaching := at(23, 1, commit(1, 0))
	wantWalk(t, "a commit in the last sector", segment(8, reaching, at(24, 1, head(1, 1))), 23, allEpochs, nil)
}

func TestWalkOfSizesThatNoRingHas(t *testing.T) {
	for size := 1; size < 4; size++ {
		h := at(size, 1, head(1, 1))
		wantWalk(t, fmt.Sprintf("size %d, a head", size), segment(size, h), size, allEpochs, []api.Entry{h})
		if size == 1 {
			continue
		}
		closed := []api.Entry{h, at(size+1, 1, switched())}
		wantWalk(t, fmt.Sprintf("size %d, a switch", size), segment(size, closed...), size, allEpochs, closed)
		withCommit := []api.Entry{h, at(size+1, 1, commit(1, 0))}
		wantWalk(t, fmt.Sprintf("size %d, a commit", size), segment(size, withCommit...), size, allEpochs, withCommit[:size-1])
	}
	l := inRow(300, 1, head(1, 1), commit(1, 64), commit(2, 64), commit(3, 10), switched())
	wantWalk(t, "size 300", segment(300, l...), 300, allEpochs, l)
}

// Bytes that are frames, but no record's.
func TestWalkOfFramesWithoutARecord(t *testing.T) {
	h := at(8, 1, head(1, 1))
	for what, body := range map[string][]byte{
		"no bytes":              nil,
		"kind 0":                {0},
		"kind 4":                {4},
		"a switch and one more": {2, 0},
		"half a head":           record.Put(head(1, 1))[:12],
		"a head and one more":   append(record.Put(head(1, 1)), 0),
		"a commit of number 0":  append(make([]byte, 0), 3, 0, 0, 0, 1, 0, 0, 0, 0, 0, 0, 0, 0, 0, 0),
		"half a commit":         record.Put(commit(1, 1))[:80],
		"41 noughts":            make([]byte, 41),
	} {
		for _, lsn := range []int{8, 9} {
			b := segment(8, h)
			copy(b[64*(lsn-8):], frame.Spread(lsn, 1, body))
			var wanted []api.Entry
			if lsn == 9 {
				wanted = []api.Entry{h}
			}
			wantWalk(t, fmt.Sprintf("%s at %d", what, lsn), b, 8, allEpochs, wanted)
		}
	}
}

func TestWalkOfSpoiltBytes(t *testing.T) {
	l := inRow(8, 1, head(1, 1), commit(1, 0), commit(2, 1), commit(3, 0), switched())
	for i, x := range l {
		for sector := x.Lsn - 8; sector < x.Lsn-8+x.Sectors; sector++ {
			for bit := range 512 {
				b := segment(8, l...)
				b[64*sector+bit/8] ^= 1 << (bit % 8)
				wantWalk(t, fmt.Sprintf("sector %d, bit %d", sector, bit), b, 8, allEpochs, l[:i])
			}
		}
	}
	r := rand.New(rand.NewSource(1))
	for n := range 200 {
		b := make([]byte, 64*(1+n%9))
		r.Read(b)
		wantWalk(t, "any bytes", b, r.Intn(1<<61), allEpochs, nil)
	}
}

func TestWalkEndsWhenItIsToldTo(t *testing.T) {
	l, _ := full()
	walk := ring.Walk(segment(16, l...), 32, allEpochs)
	for n := 1; n <= len(l); n++ {
		var got []api.Entry
		for x := range walk {
			got = append(got, x)
			if len(got) == n {
				break
			}
		}
		wantEntries(t, fmt.Sprintf("the first %d", n), got, l[:n])
	}
	for x := range walk { // within itself
		if x.Lsn == 33 {
			wantEntries(t, "within itself", slices.Collect(walk), l)
		}
	}
}

// Rule 5: b is neither changed nor kept, an iterator may be gone through again, and its entries are new memory.
func TestMemoryOfWalk(t *testing.T) {
	l := inRow(0, 1, head(1, 1), commit(1, 1), commit(2, 2), switched())
	was := append(segment(16, l...), 1, 2, 3)
	b := slices.Clone(was)
	walk := ring.Walk(b[:len(b)-3], 0, allEpochs)
	for x := range walk {
		spoil(x)
	}
	if !bytes.Equal(b, was) {
		t.Errorf("what was handed in is changed")
	}
	wantEntries(t, "behind a change of what was told", slices.Collect(walk), l)
	clear(b)
	wantEntries(t, "behind a change of what was handed in", slices.Collect(walk), l)
	got := slices.Collect(walk)
	spoil(got[1])
	if got[1].R.Writes = nil; !alikeRecords(got[2].R, l[2].R) {
		t.Errorf("two entries share memory")
	}
}

// spoil changes all memory of an entry, its spare room too.
func spoil(x api.Entry) {
	l := x.R.Writes[:cap(x.R.Writes)]
	for i := range l {
		b := l[i].B[:cap(l[i].B)]
		for k := range b {
			b[k] ^= 0x5a
		}
		l[i] = api.Write{Block: -9}
	}
}

// plainWalk is the chapter's words, sector by sector, without Gather.
func plainWalk(b []byte, lsn, least, greatest int) []api.Entry {
	size := len(b) / 64
	sector := lsn % size
	if sector >= size {
		return nil
	}
	f, e := frame.Get(b[64*sector : 64*sector+64])
	if e != api.OK || f.Index != 0 || sector+f.Count > size {
		return nil
	}
	var body []byte
	for i := range f.Count {
		g, e := frame.Get(b[64*(sector+i) : 64*(sector+i+1)])
		if e != api.OK || g.Lsn != lsn+i || g.Index != i || g.Count != f.Count || g.Epoch != f.Epoch {
			return nil
		}
		body = append(body, g.B...)
	}
	r, e := record.Get(body)
	if e != api.OK || f.Epoch < least || f.Epoch > greatest {
		return nil
	}
	x := api.Entry{Lsn: lsn, Epoch: f.Epoch, Sectors: f.Count, R: r}
	behind := sector + f.Count
	switch {
	case r.Kind == 1 && sector == 0, r.Kind == 3 && sector != 0 && behind <= size-1:
		if behind == size {
			return []api.Entry{x}
		}
		return append([]api.Entry{x}, plainWalk(b, lsn+f.Count, f.Epoch, greatest)...)
	case r.Kind == 2 && sector != 0:
		return []api.Entry{x}
	}
	return nil
}

func TestWalkBesidePlainOne(t *testing.T) {
	r := rand.New(rand.NewSource(8))
	lengths := map[int]int{}
	for range 4000 {
		size := 1 + r.Intn(12)
		base := size * r.Intn(5)
		b := make([]byte, 64*size)
		for lsn := base; lsn < base+size; {
			x := at(lsn, 1+r.Intn(2), anyRecord(r, lsn-base))
			copy(b[64*(lsn-base):], framesOf(x))
			lsn += x.Sectors
		}
		if r.Intn(3) == 0 {
			b[r.Intn(len(b))] ^= 1
		}
		lsn := base + r.Intn(size)*r.Intn(2)
		epochs := [2]int{r.Intn(3), 1 + r.Intn(3)}
		wanted := plainWalk(b, lsn, epochs[0], epochs[1])
		wantWalk(t, fmt.Sprintf("size %d from %d", size, lsn), b, lsn, epochs, wanted)
		lengths[len(wanted)]++
	}
	for n := range 5 {
		if lengths[n] == 0 {
			t.Errorf("none of %d entries", n)
		}
	}
}

// anyRecord is one that often belongs to the sector.
func anyRecord(r *rand.Rand, sector int) api.Record {
	switch n := r.Intn(20); {
	case sector == 0 && n < 18, n == 0:
		return head(1, 1+r.Intn(9))
	case n < 3:
		return switched()
	}
	return commit(1+r.Intn(9), r.Intn(3)*r.Intn(2))
}

// P8.2

func TestNew(t *testing.T) {
	for _, c := range []struct {
		sectors, from, segments, size int
		e                             api.Errno
	}{
		{4096, -1, 3, 4, api.ErrArg}, {4096, math.MinInt, 3, 4, api.ErrArg},
		{4096, 0, 2, 4, api.ErrArg}, {4096, 0, 65, 4, api.ErrArg}, {4096, 0, 3, 3, api.ErrArg}, {4096, 0, 3, 65, api.ErrArg},
		{4096, 0, 0, 4, api.ErrArg}, {4096, 0, 3, 0, api.ErrArg}, {4096, 0, -3, -4, api.ErrArg}, {4096, 0, -3, 4, api.ErrArg},
		{4096, 0, math.MaxInt, math.MaxInt, api.ErrArg}, {4096, 0, math.MinInt, 4, api.ErrArg}, {4096, 0, 3, math.MinInt, api.ErrArg},
		{4096, 0, 3, 4, api.OK}, {4096, 0, 64, 4, api.OK}, {4096, 0, 3, 64, api.OK}, {4096, 0, 64, 64, api.OK},
		{4096, 1, 64, 64, api.ErrRange}, {4095, 0, 64, 64, api.ErrRange},
		{12, 0, 3, 4, api.OK}, {11, 0, 3, 4, api.ErrRange}, {12, 1, 3, 4, api.ErrRange}, {13, 1, 3, 4, api.OK},
		{192, 0, 3, 64, api.OK}, {191, 0, 3, 64, api.ErrRange}, {256, 0, 64, 4, api.OK}, {255, 0, 64, 4, api.ErrRange},
		{30, 3, 3, 8, api.OK}, {30, 6, 3, 8, api.OK}, {30, 7, 3, 8, api.ErrRange}, {30, 30, 3, 8, api.ErrRange}, {30, 31, 3, 8, api.ErrRange},
		{1, 0, 3, 4, api.ErrRange}, {30, math.MaxInt, 3, 8, api.ErrRange}, {30, math.MaxInt - 23, 3, 8, api.ErrRange}, {30, math.MaxInt - 24, 3, 8, api.ErrRange},
		{1, -1, 3, 64, api.ErrArg}, {1, math.MaxInt, 2, 64, api.ErrArg}, {1, 0, 3, 65, api.ErrArg}, // named first
	} {
		d := device(t, c.sectors)
		l, e := ring.New(d, c.from, c.segments, c.size)
		if e != c.e || (l != nil) != (e == api.OK) {
			t.Errorf("%v: %v %v", c, l, e)
		}
		want(t, "Calls", d.Calls(), 0)
		if l != nil {
			want(t, "End", l.End(), 0)
			want(t, "Fresh", l.Fresh(), false)
		}
	}
	for _, c := range [][3]int{{0, 3, 4}, {-1, 3, 4}, {0, 2, 4}, {0, 3, 3}} {
		if l, e := ring.New(nil, c[0], c[1], c[2]); l != nil || e != api.ErrNil {
			t.Errorf("of nil, %v: %v %v", c, l, e)
		}
	}
}

func TestNewAsksNothingOfTheDevice(t *testing.T) {
	d := device(t, 12)
	d.Limit(0)
	d.Flush()
	want(t, "Off", d.Off(), true)
	l, e := ring.New(d, 0, 3, 4)
	want(t, "New on a device that is off", e, api.OK)
	want(t, "End", l.End(), 0)
}

func TestStart(t *testing.T) {
	for _, n := range []int{0, 1, 2, 3, 4, 100, 1<<32 + 1, mostSegment - 1, mostSegment} {
		for _, size := range []int{4, 5, 64} {
			g := logOf(t, 3, size)
			want(t, "Start", g.l.Start(n, 7, 2, 9), api.OK)
			want(t, "End", g.l.End(), n*size+1)
			want(t, "Fresh", g.l.Fresh(), true)
			want(t, "Calls", g.d.Calls(), 1)
			want(t, "Waiting", g.d.Waiting(), 1)
			g.wantLaid(fmt.Sprintf("Start(%d)", n), at(n*size, 7, head(2, 9)))
		}
	}
	for _, c := range []struct{ epoch, timeline, number int }{
		{0, 1, 0}, {mostEpoch, 1, 0}, {1, 1<<31 - 1, 0}, {1, 1, 1 << 40}, {mostEpoch, 1<<31 - 1, 1 << 40},
	} {
		g := logOf(t, 3, 4)
		want(t, "Start", g.l.Start(1, c.epoch, c.timeline, c.number), api.OK)
		g.wantLaid(fmt.Sprintf("Start of %v", c), at(4, c.epoch, head(c.timeline, c.number)))
	}
}

// The sector of a head, spelt by the library.
func TestStartByBytes(t *testing.T) {
	g := logOf(t, 3, 4)
	want(t, "Start", g.l.Start(4, 7, 2, 9), api.OK)
	b := []byte{0xB7, 0x1E}
	b = binary.BigEndian.AppendUint64(b, 16) // Lsn
	b = binary.BigEndian.AppendUint32(b, 7)  // Epoch
	b = binary.BigEndian.AppendUint16(b, 0)  // Index
	b = binary.BigEndian.AppendUint16(b, 1)  // Count
	b = binary.BigEndian.AppendUint16(b, 13) // bytes
	b = append(b, 1)                         // RecHead
	b = binary.BigEndian.AppendUint32(b, 2)  // Timeline
	b = binary.BigEndian.AppendUint64(b, 9)  // Number
	b = append(b, make([]byte, 60-len(b))...)
	sum := crc32.ChecksumIEEE(b)
	got, e := g.d.Read(5, 1)
	want(t, "Read", e, api.OK)
	if little := binary.LittleEndian.AppendUint32(slices.Clone(b), sum); !bytes.Equal(got, little) {
		t.Errorf("%x, wanted %x", got, little)
	}
}

func TestStartOfWrongArguments(t *testing.T) {
	for _, begun := range []bool{false, true} {
		g := logOf(t, 3, 8)
		if begun {
			want(t, "Start", g.l.Start(5, 1, 1, 1), api.OK)
			g.wantAdd("begun", commit(1, 1), 1, 5, 41)
		}
		for _, c := range [][4]int{
			{-1, 1, 1, 1}, {math.MinInt, 1, 1, 1}, {mostSegment + 1, 1, 1, 1}, {math.MaxInt, 1, 1, 1}, {1 << 61, 1, 1, 1},
			{0, -1, 1, 1}, {0, math.MinInt, 1, 1}, {0, mostEpoch + 1, 1, 1}, {0, math.MaxInt, 1, 1},
			{0, 1, 0, 1}, {0, 1, -1, 1}, {0, 1, 1 << 31, 1}, {0, 1, math.MaxInt, 1}, {0, 1, math.MinInt, 1},
			{0, 1, 1, -1}, {0, 1, 1, 1<<40 + 1}, {0, 1, 1, math.MaxInt}, {0, 1, 1, math.MinInt}, {-1, -1, -1, -1},
		} {
			g.wantSame(fmt.Sprint(c), func() {
				want(t, fmt.Sprintf("Start of %v", c), g.l.Start(c[0], c[1], c[2], c[3]), api.ErrArg)
			})
		}
	}
}

// Start goes over what is there, forth and back.
func TestStartAgain(t *testing.T) {
	g := started(t, 3, 8, 5)
	g.wantAdd("in the segment 5", commit(1, 0), 1, 5, 41)
	want(t, "Start of the segment 2", g.l.Start(2, 2, 3, 4), api.OK)
	want(t, "End", g.l.End(), 17)
	g.wantLaid("Start over the segment 5", at(40, 1, head(1, 1)), at(41, 1, commit(1, 0)), at(16, 2, head(3, 4)))
	want(t, "Start of the segment 9", g.l.Start(9, 2, 3, 4), api.OK)
	want(t, "End", g.l.End(), 73)
}

func TestSegment(t *testing.T) {
	g := logOf(t, 3, 4)
	b := make([]byte, 64*14)
	for i := range b {
		b[i] = byte(i / 64)
	}
	want(t, "Write", g.d.Write(0, b), api.OK)
	for _, n := range []int{0, 1, 2, 3, 4, 5, 6, 100, 1<<40 + 1, math.MaxInt - 1, math.MaxInt} {
		got, e := g.l.Segment(n)
		from := 1 + n%3*4
		if e != api.OK || !bytes.Equal(got, b[64*from:64*(from+4)]) {
			t.Errorf("Segment(%d): %v %v", n, got, e)
		}
	}
	for _, n := range []int{-1, -3, math.MinInt} {
		if got, e := g.l.Segment(n); e != api.ErrArg || len(got) != 0 {
			t.Errorf("Segment(%d): %v %v", n, got, e)
		}
	}
	got, _ := g.l.Segment(1)
	clear(got[:cap(got)])
	if again, _ := g.l.Segment(1); again[0] != 5 {
		t.Errorf("Segment's answer is what is on the device")
	}
	g.d.Limit(0)
	g.d.Flush()
	if got, e := g.l.Segment(1); e != api.ErrOff || len(got) != 0 {
		t.Errorf("Segment(1), off: %v %v", got, e)
	}
	if got, e := g.l.Segment(-1); e != api.ErrArg || len(got) != 0 {
		t.Errorf("Segment(-1), off: %v %v", got, e)
	}
}

func TestFreshIsTheSectorOne(t *testing.T) {
	for _, size := range []int{4, 5, 64} {
		g := logOf(t, 3, size)
		for lsn := range 3 * size {
			g.wantOpen(fmt.Sprintf("size %d, the end is %d", size, lsn), lsn, 0, lsn, nil)
		}
	}
	g := started(t, 3, 8, 0)
	want(t, "Fresh behind Start", g.l.Fresh(), true)
	g.wantAdd("one", commit(1, 0), 1, 0, 1)
	want(t, "Fresh behind Add", g.l.Fresh(), false)
	want(t, "Turn", g.l.Turn(1, 0, 1, 2), api.OK)
	want(t, "Fresh behind Turn", g.l.Fresh(), true)
}
