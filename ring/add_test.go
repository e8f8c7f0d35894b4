package ring_test

import (
	"fmt"
	"math"
	"math/rand"
	"slices"
	"testing"

	"breviary/api"
	"breviary/ring"
)

// P8.3

// wrongRecords are no right RecCommits.
func wrongRecords() map[string]api.Record {
	return map[string]api.Record{
		"the zero record":       {},
		"a head":                head(1, 1),
		"a switch":              switched(),
		"kind 4":                {Kind: 4, Timeline: 1, Number: 1},
		"a commit of number 0":  {Kind: 3, Timeline: 1},
		"number -1":             {Kind: 3, Timeline: 1, Number: -1},
		"number 2^40 + 1":       {Kind: 3, Timeline: 1, Number: 1<<40 + 1},
		"timeline 0":            {Kind: 3, Number: 1},
		"timeline 2^31":         {Kind: 3, Timeline: 1 << 31, Number: 1},
		"a block of 63 bytes":   {Kind: 3, Timeline: 1, Number: 1, Writes: []api.Write{{B: make([]byte, 63)}}},
		"the block 64":          {Kind: 3, Timeline: 1, Number: 1, Writes: []api.Write{{Block: 64, B: make([]byte, 64)}}},
		"one block twice":       {Kind: 3, Timeline: 1, Number: 1, Writes: []api.Write{{B: make([]byte, 64)}, {B: make([]byte, 64)}}},
		"65 writes":             commit(1, 65),
		"a commit named a head": {Kind: 1, Timeline: 1, Number: 1, Writes: commit(1, 1).Writes},
	}
}

func TestRoomAndAddOfWrongRecords(t *testing.T) {
	g := started(t, 3, 64, 2)
	for what, r := range wrongRecords() {
		g.wantSame(what, func() { want(t, what+": Room", g.l.Room(r, 2), api.ErrArg) })
		g.wantNoAdd(what, r, 1, 2, api.ErrArg)
		g.wantNoAdd(what, r, -1, math.MinInt, api.ErrArg)
	}
}

func TestRightRecordsAtTheirEdges(t *testing.T) {
	for _, c := range [][2]int{{1, 1}, {1<<31 - 1, 1}, {1, 1 << 40}, {1<<31 - 1, 1 << 40}} {
		g := started(t, 3, 8, 2)
		r := api.Record{Kind: 3, Timeline: c[0], Number: c[1], Writes: commit(1, 1).Writes}
		r.Writes[0].Block = 63
		want(t, "Room", g.l.Room(r, 2), api.OK)
		g.wantAdd(fmt.Sprint(c), r, mostEpoch, 2, 17)
		g.wantAdd(fmt.Sprint(c), r, mostEpoch, 2, 20)
		g.wantAdd(fmt.Sprint(c), r, mostEpoch, 2, 25) // its timeline and number are the next head's
		g.wantLaid(fmt.Sprint(c), at(16, 1, head(1, 1)), at(17, mostEpoch, r), at(20, mostEpoch, r),
			at(23, mostEpoch, switched()), at(24, mostEpoch, head(c[0], c[1])), at(25, mostEpoch, r))
	}
}

func TestAnEndOfNought(t *testing.T) {
	g := logOf(t, 3, 8)
	want(t, "Room", g.l.Room(commit(1, 0), 0), api.ErrArg)
	want(t, "Room of one that is too large", g.l.Room(commit(1, 9), 0), api.ErrArg)
	g.wantNoAdd("not begun", commit(1, 0), 1, 0, api.ErrArg)
	g.wantNoAdd("not begun, too large", commit(1, 9), 1, 0, api.ErrArg)
	g.wantNoAdd("not begun, full", commit(1, 0), 1, math.MinInt, api.ErrArg)
	g.wantNoTurn("not begun", 1, 0, 1, 1, api.ErrArg)
	g.wantNoTurn("not begun, full", 1, math.MinInt, 1, 1, api.ErrArg)
	// An Open that finds nothing at 0 brings that end again.
	want(t, "Start", g.l.Start(0, 1, 1, 1), api.OK)
	g.wantOpen("of an epoch ahead", 0, 0, 0, nil)
	g.wantNoAdd("opened at 0", commit(1, 0), 1, 0, api.ErrArg)
	g.wantNoTurn("opened at 0", 1, 0, 1, 1, api.ErrArg)
}

// A commit of so many writes goes into a fresh segment of each size, or is too large for all of them.
func TestSizesOfCommits(t *testing.T) {
	for size := 4; size <= 64; size++ {
		for writes := 0; writes <= 64; writes++ {
			g := started(t, 3, size, 1)
			r, wanted := commit(1, writes), api.OK
			if sectorsOf(writes) > size-2 {
				wanted = api.ErrSize
			}
			want(t, fmt.Sprintf("Room: size %d, %d writes", size, writes), g.l.Room(r, 1), wanted)
			if wanted == api.OK {
				g.wantAdd(fmt.Sprintf("size %d, %d writes", size, writes), r, 1, 1, size+1)
				continue
			}
			g.wantNoAdd(fmt.Sprintf("size %d, %d writes", size, writes), r, 1, 1, api.ErrSize)
		}
	}
}

// The edges of that: three sectors just go into a segment of 5, and are one too many of 4.
func TestJustSizeLessTwo(t *testing.T) {
	g := started(t, 3, 5, 1)
	want(t, "size 5", g.l.Room(commit(1, 1), 1), api.OK)
	g = started(t, 3, 4, 1)
	want(t, "size 4", g.l.Room(commit(1, 1), 1), api.ErrSize)
	// ErrSize is told where there is no room otherwise, too.
	g.wantAdd("two of one sector", commit(1, 0), 1, 1, 5)
	g.wantAdd("two of one sector", commit(2, 0), 1, 1, 6)
	want(t, "full", g.l.Room(commit(3, 0), math.MinInt), api.ErrLog)
	want(t, "full, and too large", g.l.Room(commit(3, 1), math.MinInt), api.ErrSize)
	g.wantNoAdd("full, and too large", commit(3, 1), 1, math.MinInt, api.ErrSize)
}

// filled is a log of segments of 8 sectors, whose end is at that sector of the segment 4 (from 2 to 7).
func filled(t *testing.T, sector int) (*rig, []api.Entry) {
	t.Helper()
	g := started(t, 3, 8, 4)
	laid := []api.Entry{at(32, 1, head(1, 1))}
	for n := 1; n < sector; n++ {
		g.wantAdd("filling", commit(n, 0), 1, 4, 32+n)
		laid = append(laid, at(32+n, 1, commit(n, 0)))
	}
	return g, laid
}

// At each sector of the end, commits of each size: into the segment as long as the last sector is left, else into the next one.
func TestAddAtEachSector(t *testing.T) {
	for sector := 1; sector <= 7; sector++ {
		for writes := range 4 {
			g, laid := filled(t, sector)
			r, what := commit(50, writes), fmt.Sprintf("at sector %d, %d writes", sector, writes)
			calls, place := g.d.Calls(), 32+sector
			wanted := []api.Entry{at(place, 2, r)}
			if sector+sectorsOf(writes) > 7 {
				wanted = []api.Entry{at(place, 2, switched()), at(40, 2, head(1, 50)), at(41, 2, r)}
				place = 41
			}
			want(t, what+": Room", g.l.Room(r, 4), api.OK)
			g.wantAdd(what, r, 2, 4, place)
			want(t, what+": Calls", g.d.Calls()-calls, len(wanted))
			g.wantLaid(what, append(laid, wanted...)...)
		}
	}
}

func TestLow(t *testing.T) {
	for _, segments := range []int{3, 4, 64} {
		g := started(t, segments, 4, 100)
		g.wantAdd("one", commit(1, 0), 1, 100, 401)
		want(t, "it goes in, whatever low is", g.l.Room(commit(2, 0), math.MinInt), api.OK)
		g.wantAdd("two", commit(2, 0), 1, math.MinInt, 402)
		next := 101
		for _, low := range []int{math.MinInt, math.MinInt + 1, -1, 0, 1, next - segments - 1, next - segments} {
			what := fmt.Sprintf("%d segments, low %d", segments, low)
			want(t, what+": Room", g.l.Room(commit(3, 0), low), api.ErrLog)
			g.wantNoAdd(what, commit(3, 0), 1, low, api.ErrLog)
			g.wantNoAdd(what+", a wrong epoch", commit(3, 0), -1, low, api.ErrLog)
			g.wantNoTurn(what, 1, low, 1, 3, api.ErrLog)
		}
		for _, low := range []int{next - segments + 1, next - 1, next, next + 1, 1 << 40, math.MaxInt - segments, math.MaxInt} {
			want(t, fmt.Sprintf("%d segments, low %d: Room", segments, low), g.l.Room(commit(3, 0), low), api.OK)
		}
		want(t, "Turn", g.l.Turn(1, next-segments+1, 1, 3), api.OK)
	}
}

func TestAddAtTheLeastLow(t *testing.T) {
	for _, low := range []int{99, 101, math.MaxInt} {
		g := started(t, 3, 4, 100)
		g.wantAdd("one", commit(1, 0), 1, 100, 401)
		g.wantAdd("two", commit(2, 0), 1, 100, 402)
		g.wantAdd(fmt.Sprintf("low %d", low), commit(3, 0), 1, low, 405)
	}
}

// A low below 0 is a number as others are: the segment 1 is 3 above -2.
func TestLowBelowNought(t *testing.T) {
	g := started(t, 3, 4, 0)
	g.wantAdd("one", commit(1, 0), 1, 0, 1)
	g.wantAdd("two", commit(2, 0), 1, 0, 2)
	want(t, "low -2", g.l.Room(commit(3, 0), -2), api.ErrLog)
	g.wantNoTurn("low -2", 1, -2, 1, 3, api.ErrLog)
	want(t, "low -1", g.l.Room(commit(3, 0), -1), api.OK)
	want(t, "Turn, low -1", g.l.Turn(1, -1, 1, 3), api.OK)
}

// The log is full, and goes on when there is room: the ring goes round.
func TestRoundTheRing(t *testing.T) {
	g := started(t, 3, 4, 0)
	number, low := 1, 0
	for segment := range 20 {
		for n := range 2 {
			if segment > low+2 {
				t.Fatalf("the segment %d, low %d", segment, low)
			}
			g.wantAdd("round", commit(number, 0), 1, low, 4*segment+1+n)
			number++
		}
		if segment == low+2 {
			g.wantNoAdd("full", commit(number, 0), 1, low, api.ErrLog)
			low++
		}
	}
	want(t, "End", g.l.End(), 4*19+3)
	wanted := []api.Entry{}
	for segment := 17; segment < 20; segment++ {
		wanted = append(wanted, inRow(4*segment, 1, head(1, 2*segment+1), commit(2*segment+1, 0), commit(2*segment+2, 0), switched())...)
	}
	wanted = wanted[:len(wanted)-1]
	// The segment 16's switch was in the part that the segment 19 has now.
	g.wantLaid("round", append(slices.Clone(wanted), at(67, 1, switched()))...)
	g.wantOpen("round", 4*17, 1, 4*19+3, wanted)
}

func TestAddOfWrongEpochs(t *testing.T) {
	g, _ := filled(t, 2)
	for _, epoch := range []int{-1, mostEpoch + 1, math.MinInt, math.MaxInt} {
		g.wantNoAdd(fmt.Sprintf("the epoch %d", epoch), commit(9, 0), epoch, 4, api.ErrArg)
		g.wantNoAdd(fmt.Sprintf("the epoch %d, in the next segment", epoch), commit(9, 4), epoch, 4, api.ErrSize)
		g.wantNoTurn(fmt.Sprintf("the epoch %d", epoch), epoch, 4, 1, 9, api.ErrArg)
	}
	g, laid := filled(t, 7)
	g.wantNoAdd("the epoch -1, in the next segment", commit(9, 0), -1, 4, api.ErrArg)
	g.wantNoAdd("the epoch 2^32, in the next segment", commit(9, 0), mostEpoch+1, 4, api.ErrArg)
	// An epoch that falls isn't refused.
	g.wantAdd("the epoch 0", commit(9, 0), 0, 4, 41)
	g.wantLaid("the epoch 0", append(laid, at(39, 0, switched()), at(40, 0, head(1, 9)), at(41, 0, commit(9, 0)))...)
}

func TestTurn(t *testing.T) {
	for sector := 2; sector <= 7; sector++ {
		g, laid := filled(t, sector)
		calls := g.d.Calls()
		want(t, "Turn", g.l.Turn(3, 4, 5, 6), api.OK)
		want(t, "End", g.l.End(), 41)
		want(t, "Fresh", g.l.Fresh(), true)
		want(t, "Calls", g.d.Calls()-calls, 2)
		g.wantLaid(fmt.Sprintf("Turn at sector %d", sector), append(laid, at(32+sector, 3, switched()), at(40, 3, head(5, 6)))...)
		g.wantNoTurn("at once again", 3, 4, 5, 6, api.ErrTurn)
		g.wantAdd("behind it", commit(6, 1), 3, 4, 41)
	}
	for _, c := range [][3]int{{0, 1, 0}, {mostEpoch, 1<<31 - 1, 1 << 40}} {
		g, laid := filled(t, 3)
		want(t, "Turn", g.l.Turn(c[0], 4, c[1], c[2]), api.OK)
		g.wantLaid(fmt.Sprintf("Turn of %v", c), append(laid, at(35, c[0], switched()), at(40, c[0], head(c[1], c[2])))...)
	}
}

func TestTurnOfWrongArguments(t *testing.T) {
	fresh := started(t, 3, 8, 4)
	g, _ := filled(t, 3)
	for _, c := range [][3]int{
		{-1, 1, 1}, {mostEpoch + 1, 1, 1}, {math.MinInt, 1, 1}, {math.MaxInt, 1, 1},
		{1, 0, 1}, {1, -1, 1}, {1, 1 << 31, 1}, {1, 1, -1}, {1, 1, 1<<40 + 1}, {1, 1, math.MinInt}, {1, math.MaxInt, 1},
	} {
		g.wantNoTurn(fmt.Sprint(c), c[0], 4, c[1], c[2], api.ErrArg)
		g.wantNoTurn(fmt.Sprint(c, ", full"), c[0], 0, c[1], c[2], api.ErrArg)
		fresh.wantNoTurn(fmt.Sprint(c, ", fresh"), c[0], 4, c[1], c[2], api.ErrArg)
	}
	fresh.wantNoTurn("fresh", 1, 4, 1, 1, api.ErrTurn)
	fresh.wantNoTurn("fresh and full", 1, 0, 1, 1, api.ErrTurn)
	g.wantNoTurn("full", 1, 2, 1, 1, api.ErrLog)
	want(t, "not full", g.l.Turn(1, 3, 1, 1), api.OK)
}

// Where the device goes off, what was written ahead of that waits, and the end stays.
func TestErrorsOfTheDevice(t *testing.T) {
	g0 := logOf(t, 3, 8)
	g0.d.Limit(0)
	want(t, "Start", g0.l.Start(4, 1, 1, 1), api.ErrOff)
	want(t, "End", g0.l.End(), 0)
	want(t, "Fresh", g0.l.Fresh(), false)
	want(t, "Waiting", g0.d.Waiting(), 0)

	for limit := range 3 {
		g, laid := filled(t, 7)
		g.d.Flush()
		g.d.Limit(limit)
		if place, e := g.l.Add(commit(50, 1), 2, 4); place != 0 || e != api.ErrOff {
			t.Errorf("Add, limit %d: %d %v", limit, place, e)
		}
		wantOff(g, fmt.Sprintf("Add, limit %d", limit), 39, limit)
		parts := []api.Entry{at(39, 2, switched()), at(40, 2, head(1, 50))}
		g.d.Crash([]bool{true, true})
		g.wantLaid("what was written ahead", append(laid, parts[:limit]...)...)
		g.wantAdd("once again", commit(50, 1), 2, 4, 41)
	}
	for limit := range 2 {
		g, laid := filled(t, 3)
		g.d.Flush()
		g.d.Limit(limit)
		want(t, "Turn", g.l.Turn(2, 4, 1, 50), api.ErrOff)
		wantOff(g, fmt.Sprintf("Turn, limit %d", limit), 35, limit)
		g.d.Crash([]bool{true})
		g.wantLaid("what was written ahead", append(laid, []api.Entry{at(35, 2, switched())}[:limit]...)...)
		want(t, "Turn once again", g.l.Turn(2, 4, 1, 50), api.OK)
		want(t, "End", g.l.End(), 41)
	}
	g, laid := filled(t, 3)
	g.d.Flush()
	g.d.Limit(0)
	if place, e := g.l.Add(commit(50, 1), 2, 4); place != 0 || e != api.ErrOff {
		t.Errorf("Add into the segment: %d %v", place, e)
	}
	wantOff(g, "Add into the segment", 35, 0)
	g.d.Crash(nil)
	g.wantLaid("nothing was written", laid...)
}

// wantOff: the device is off, so many sectors wait, and the end is that; errors of the arguments are named ahead of ErrOff, and Room asks nothing of the device.
func wantOff(g *rig, what string, end, waiting int) {
	g.t.Helper()
	want(g.t, what+": End", g.l.End(), end)
	want(g.t, what+": Waiting", g.d.Waiting(), waiting)
	want(g.t, what+": Off", g.d.Off(), true)
	want(g.t, what+": Room", g.l.Room(commit(50, 1), 4), api.OK)
	_, e := g.l.Add(commit(50, 1), 2, 4)
	want(g.t, what+": Add, off", e, api.ErrOff)
	want(g.t, what+": Turn, off", g.l.Turn(2, 4, 1, 1), api.ErrOff)
	want(g.t, what+": Start, off", g.l.Start(2, 4, 1, 1), api.ErrOff)
	_, e = g.l.Open(32, 1)
	want(g.t, what+": Open, off", e, api.ErrOff)
	_, e = g.l.Add(commit(50, 1), -1, 4)
	want(g.t, what+": Add of a wrong epoch, off", e, api.ErrArg)
	_, e = g.l.Add(commit(50, 9), 2, 4)
	want(g.t, what+": Add of a large one, off", e, api.ErrSize)
	want(g.t, what+": Turn of a wrong epoch, off", g.l.Turn(-1, 4, 1, 1), api.ErrArg)
	want(g.t, what+": Turn where it is full, off", g.l.Turn(1, 0, 1, 1), api.ErrLog)
	want(g.t, what+": Start of a wrong epoch, off", g.l.Start(2, -1, 1, 1), api.ErrArg)
	_, e = g.l.Open(-1, 1)
	want(g.t, what+": Open of a wrong place, off", e, api.ErrArg)
	want(g.t, what+": the end stays", g.l.End(), end)
}

// The words of Room and Add speak of an end of 0 alone: at another segment's beginning, where Open may leave it, a commit goes into that segment.
func TestAnEndAtABeginning(t *testing.T) {
	g := logOf(t, 3, 8)
	g.wantOpen("nothing", 16, 1, 16, nil)
	want(t, "Room", g.l.Room(commit(1, 0), math.MinInt), api.OK)
	g.wantAdd("there", commit(1, 3), 1, math.MinInt, 16)
	g.wantLaid("there", at(16, 1, commit(1, 3)))
	g = logOf(t, 3, 8)
	g.wantOpen("nothing", 16, 1, 16, nil)
	g.wantNoTurn("full", 1, 0, 1, 1, api.ErrLog)
	want(t, "Turn", g.l.Turn(1, 1, 1, 1), api.OK)
	g.wantLaid("Turn", at(16, 1, switched()), at(24, 1, head(1, 1)))
}

// Start's bound is that of its own segment: the log goes on behind it.
func TestBehindTheGreatestSegment(t *testing.T) {
	g := started(t, 3, 4, mostSegment)
	place := 4 * mostSegment
	g.wantAdd("one", commit(1, 0), 1, mostSegment, place+1)
	want(t, "Turn", g.l.Turn(1, mostSegment, 1, 2), api.OK)
	g.wantAdd("two", commit(2, 0), 1, mostSegment, place+5)
	g.wantAdd("three", commit(3, 0), 1, mostSegment, place+6)
	g.wantAdd("four", commit(4, 0), 1, mostSegment, place+9)
	g.wantOpen("all", place, 1, place+10, append(append(
		inRow(place, 1, head(1, 1), commit(1, 0), switched()),
		inRow(place+4, 1, head(1, 2), commit(2, 0), commit(3, 0), switched())...),
		inRow(place+8, 1, head(1, 4), commit(4, 0))...))
}

// Rule 5: a record that is handed in is neither changed nor kept.
func TestMemoryOfAdd(t *testing.T) {
	g := started(t, 3, 16, 1)
	r, was := commit(1, 2), commit(1, 2)
	g.l.Room(r, 1)
	g.wantAdd("one", r, 1, 1, 17)
	if !alikeRecords(r, was) {
		t.Errorf("the record is changed")
	}
	spoil(api.Entry{R: r})
	g.wantLaid("behind a change of the record", at(16, 1, head(1, 1)), at(17, 1, was))
}

// plain is the chapter's words of a log, over a list of what was laid.
type plain struct {
	segments, size, end int
	laid                []api.Entry
}

func (p *plain) room(r api.Record, low int) api.Errno {
	need := sectorsOf(len(r.Writes))
	switch {
	case p.end == 0:
		return api.ErrArg
	case need > p.size-2:
		return api.ErrSize
	case p.end%p.size+need <= p.size-1:
		return api.OK
	case p.end/p.size+1-low >= p.segments:
		return api.ErrLog
	}
	return api.OK
}

func (p *plain) put(lsn, epoch int, l ...api.Record) {
	row := inRow(lsn, epoch, l...)
	p.laid = append(p.laid, row...)
	last := row[len(row)-1]
	p.end = last.Lsn + last.Sectors
}

func (p *plain) add(r api.Record, epoch, low int) (int, api.Errno) {
	if e := p.room(r, low); e != api.OK {
		return 0, e
	}
	if p.end%p.size+sectorsOf(len(r.Writes)) > p.size-1 {
		p.turned(epoch, r.Timeline, r.Number)
	}
	place := p.end
	p.put(place, epoch, r)
	return place, api.OK
}

func (p *plain) turned(epoch, timeline, number int) {
	next := (p.end/p.size + 1) * p.size
	p.put(p.end, epoch, switched())
	p.put(next, epoch, head(timeline, number))
}

func (p *plain) turn(epoch, low, timeline, number int) api.Errno {
	switch {
	case p.end == 0:
		return api.ErrArg
	case p.end%p.size == 1:
		return api.ErrTurn
	case p.end/p.size+1-low >= p.segments:
		return api.ErrLog
	}
	p.turned(epoch, timeline, number)
	return api.OK
}

func TestLogBesidePlainOne(t *testing.T) {
	r := rand.New(rand.NewSource(83))
	seen := map[api.Errno]int{}
	for range 150 {
		g := logOf(t, 3+r.Intn(4), 4+r.Intn(12))
		p := &plain{segments: g.segments, size: g.size}
		for n := 1; n < 60; n++ {
			low := p.end/p.size - r.Intn(g.segments+1)
			var got, wanted api.Errno
			switch k := r.Intn(30); {
			case k == 0:
				segment := r.Intn(30)
				got, wanted = g.l.Start(segment, n, 1, n), api.OK
				p.put(segment*p.size, n, head(1, n))
			case k < 6:
				got, wanted = g.l.Turn(n, low, 2, n), p.turn(n, low, 2, n)
			default:
				c := commit(n, r.Intn(5)*r.Intn(2))
				want(t, "Room", g.l.Room(c, low), p.room(c, low))
				var place, wantedPlace int
				place, got = g.l.Add(c, n, low)
				wantedPlace, wanted = p.add(c, n, low)
				want(t, "Add", place, wantedPlace)
			}
			want(t, "the error", got, wanted)
			want(t, "End", g.l.End(), p.end)
			want(t, "Fresh", g.l.Fresh(), p.end%p.size == 1)
			seen[got]++
		}
		g.wantLaid("beside a plain one", p.laid...)
	}
	for _, e := range []api.Errno{api.OK, api.ErrArg, api.ErrSize, api.ErrLog, api.ErrTurn} {
		if seen[e] == 0 {
			t.Errorf("%v didn't come", e)
		}
	}
}

// (Of a nil log: ErrNil, 0, none, false.)
func TestNilLog(t *testing.T) {
	for what, l := range map[string]*ring.Log{"nil": nil, "the zero value, of which nothing is promised": {}} {
		want(t, what+": Start", l.Start(0, 1, 1, 1), api.ErrNil)
		want(t, what+": Start of wrong ones", l.Start(-1, -1, -1, -1), api.ErrNil)
		want(t, what+": Room", l.Room(commit(1, 0), 0), api.ErrNil)
		want(t, what+": Room of a wrong one", l.Room(api.Record{}, 0), api.ErrNil)
		place, e := l.Add(commit(1, 0), 1, 0)
		want(t, what+": Add", e, api.ErrNil)
		want(t, what+": Add", place, 0)
		place, e = l.Add(api.Record{}, -1, 0)
		want(t, what+": Add of a wrong one", e, api.ErrNil)
		want(t, what+": Add of a wrong one", place, 0)
		want(t, what+": Turn", l.Turn(1, 0, 1, 1), api.ErrNil)
		want(t, what+": Turn of wrong ones", l.Turn(-1, 0, -1, 1), api.ErrNil)
		for _, lsn := range []int{0, -1} {
			entries, e := l.Open(lsn, 1)
			want(t, what+": Open", e, api.ErrNil)
			want(t, what+": Open", len(entries), 0)
			b, e := l.Segment(lsn)
			want(t, what+": Segment", e, api.ErrNil)
			want(t, what+": Segment", len(b), 0)
		}
		want(t, what+": End", l.End(), 0)
		want(t, what+": Fresh", l.Fresh(), false)
	}
}
