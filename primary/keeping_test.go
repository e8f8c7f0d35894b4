package primary_test

import (
	"fmt"
	"math"
	"slices"
	"testing"

	"breviary/api"
	"breviary/control"
	"breviary/image"
)

// P14.4: Checkpoint

// TestCheckpoint: the dirty blocks, rising, a flush, the control, a flush.
func TestCheckpoint(t *testing.T) {
	r := formatted(t, small)
	r.commit(3, 9)
	r.commit(1, 8)
	r.keep(5)
	was, calls := r.d.Image(), r.d.Calls()
	r.checkpoint()
	c := api.Control{Gen: 2, Epoch: 1, Timeline: 1, Number: 2, Redo: 15, Low: 5}
	copy(was, control.Put(c))
	copy(was[64*3:], block(8))
	copy(was[64*5:], block(9))
	wantBytes(t, "the device", r.d.Image(), was)
	want(t, "calls", r.d.Calls()-calls, 5)
	want(t, "what waits", r.d.Waiting(), 0)
	r.wantStatus("behind it", api.Status{Timeline: 1, Number: 2, Epoch: 1, End: 15, Redo: 15, Keep: 5})
	r.wantDisk("behind it", disk(0, 8, 0, 9))
	wantList(t, "Since(0)", r.s.Since(0), 1, 3)
	calls = r.d.Calls()
	r.checkpoint()
	want(t, "calls, where nothing is dirty", r.d.Calls()-calls, 3)
	c.Gen = 3
	want(t, "the next control", counts(t, r.d), c)
	r.open()
	r.wantStatus("opened", api.Status{Timeline: 1, Number: 2, Epoch: 2, End: 15, Redo: 15, Keep: 5})
	r.wantDisk("opened", disk(0, 8, 0, 9))
}

// TestCheckpointOfTheAreaInUse: behind a Swap the blocks go to the other area.
func TestCheckpointOfTheAreaInUse(t *testing.T) {
	r := formatted(t, small)
	for area := 1; area < 6; area++ {
		r.swap(disk(1, 2, 3, 4), 2, 0)
		r.commit(2, byte(10+area))
		was := r.d.Image()
		r.checkpoint()
		c := counts(t, r.d)
		copy(was[64*(c.Gen%2):], control.Put(c))
		copy(was[64*(2+4*(area%2)+2):], block(byte(10+area)))
		wantBytes(t, "the device", r.d.Image(), was)
		want(t, "the area", c.Area, area%2)
	}
}

func TestCheckpointThatGoesOff(t *testing.T) {
	for limit := range 5 {
		for _, left := range []bool{false, true} {
			r := formatted(t, small)
			r.commit(3, 9)
			r.commit(1, 8)
			was := r.s.Status()
			r.d.Limit(limit)
			what := fmt.Sprintf("limit %d, left %v", limit, left)
			want(t, what, r.s.Checkpoint(), api.ErrOff)
			r.wantStatus(what, was)
			want(t, what+": what waits", r.d.Waiting(), []int{0, 1, 2, 0, 1}[limit])
			r.d.Crash([]bool{left, left})
			r.wantDisk(what+", on again", disk(0, 8, 0, 9))
			saved := left && limit > 0 || limit > 2
			b, e := r.d.Read(3, 1)
			want(t, what, e, api.OK)
			want(t, what+": the block 1 is saved", b[0] == 8, saved)
			c := counts(t, r.d)
			want(t, what+": the control", c.Gen == 2 && c.Redo == 15, left && limit == 4)
			r.open()
			r.wantDisk(what+", opened", disk(0, 8, 0, 9))
		}
	}
}

func TestCheckpointOfASpentControl(t *testing.T) {
	r := &rig{t: t, shape: small, d: craft(t, small, api.Control{Gen: mostGen - 2, Epoch: 3, Timeline: 1, Number: 7, Redo: 9, Low: 1})}
	r.open()
	r.commit(0, 99)
	r.checkpoint()
	want(t, "the last control", counts(t, r.d).Gen, mostGen)
	r.commit(1, 98)
	was, calls, stays := r.seen(), r.d.Calls(), r.d.Image()
	want(t, "spent", r.s.Checkpoint(), api.ErrSpent)
	want(t, "spent: what is seen", r.seen(), was)
	wantSame(t, "spent", r.d, calls, stays)
	want(t, "a commit goes all the same", r.commit(2, 97), 10)
	r.wantDisk("all of them", disk(99, 98, 97, 4))
}

// TestCheckpointBehindTheGreatestPlace: such a Redo may not be in a control.
func TestCheckpointBehindTheGreatestPlace(t *testing.T) {
	s := api.Shape{Blocks: 4, Segments: 3, Size: 5}
	r := &rig{t: t, shape: s, d: craft(t, s, api.Control{Gen: 1, Epoch: 3, Timeline: 1, Redo: 1 << 61, Low: 1})}
	r.open()
	want(t, "End", r.s.Status().End, 1<<61)
	r.checkpoint()
	r.commit()
	want(t, "End", r.s.Status().End, 1<<61+1)
	was, calls, stays := r.seen(), r.d.Calls(), r.d.Image()
	want(t, "behind the greatest place", r.s.Checkpoint(), api.ErrArg)
	want(t, "what is seen", r.seen(), was)
	wantSame(t, "behind the greatest place", r.d, calls, stays)
}

// P14.4: Turn

func TestTurn(t *testing.T) {
	r := formatted(t, small)
	want(t, "fresh", r.s.Turn(), api.ErrTurn)
	r.commit()
	was, calls := r.d.Image(), r.d.Calls()
	r.turn()
	copy(was[64*sectorAt(small, 10):], framesOf(10, 1, switched()))
	copy(was[64*sectorAt(small, 16):], framesOf(16, 1, head(1, 2)))
	wantBytes(t, "the device", r.d.Image(), was)
	want(t, "calls", r.d.Calls()-calls, 3)
	want(t, "what waits", r.d.Waiting(), 0)
	r.wantStatus("behind it", api.Status{Timeline: 1, Number: 1, Epoch: 1, End: 17, Redo: 8, Keep: 1})
	wantList(t, "Closed", r.s.Closed(), 1)
	v, calls, stays := r.seen(), r.d.Calls(), r.d.Image()
	want(t, "fresh again", r.s.Turn(), api.ErrTurn)
	want(t, "fresh again: what is seen", r.seen(), v)
	wantSame(t, "fresh again", r.d, calls, stays)
}

// TestTurnOnAFullLog: the ring has no segment left, by the checkpoint or by what is kept.
func TestTurnOnAFullLog(t *testing.T) {
	r := formatted(t, small)
	for range 2 {
		r.commit()
		r.turn()
	}
	want(t, "fresh and full", r.s.Turn(), api.ErrTurn)
	r.commit()
	refused := func(what string) {
		t.Helper()
		was, calls, stays := r.seen(), r.d.Calls(), r.d.Image()
		want(t, what, r.s.Turn(), api.ErrLog)
		want(t, what+": what is seen", r.seen(), was)
		wantSame(t, what, r.d, calls, stays)
	}
	refused("full")
	r.keep(9)
	refused("the checkpoint lies back")
	r.keep(1)
	r.checkpoint()
	refused("a segment is kept")
	r.keep(2)
	r.turn()
	wantStands(t, "room again", r.d, small, 32, 1, head(1, 4))
}

func TestTurnThatGoesOff(t *testing.T) {
	for limit := range 3 {
		r := formatted(t, small)
		r.commit(0, 1)
		r.begin()
		was := r.s.Status()
		r.d.Limit(limit)
		what := fmt.Sprint("limit ", limit)
		want(t, what, r.s.Turn(), api.ErrOff)
		want(t, what+": what waits", r.d.Waiting(), limit)
		if limit == 2 {
			was.End = 17
		}
		r.wantStatus(what, was)
		r.d.Crash(nil)
		r.wantStatus(what+", on again", was)
		r.wantDisk(what+", on again", disk(1, 0, 0, 0))
	}
}

// P14.4: Keep, Closed

func TestKeep(t *testing.T) {
	r := formatted(t, small)
	for _, n := range append(ends(), 0, 1, 2, 64, mostSegment-1, mostSegment, mostSegment+1, 3, 0) {
		calls := r.d.Calls()
		r.keep(n)
		r.wantStatus("kept", api.Status{Timeline: 1, Epoch: 1, End: 9, Redo: 8, Keep: min(max(n, 0), mostSegment)})
		want(t, "calls of the device", r.d.Calls(), calls)
	}
	r.keep(mostSegment)
	r.checkpoint()
	want(t, "the control's Low", counts(t, r.d).Low, mostSegment)
	r.keep(-1)
	r.checkpoint()
	want(t, "the control's Low", counts(t, r.d).Low, 0)
}

func TestClosed(t *testing.T) {
	for segments := 3; segments <= 5; segments++ {
		r := formatted(t, api.Shape{Blocks: 4, Segments: segments, Size: 8})
		for end := 1; end <= 12; end++ {
			want(t, "the end's segment", r.s.Status().End/8, end)
			for _, n := range append(ends(), 0, 1, 2, 3, 4, 5, 6, 7, 8, 9, 10, 11, 12, 13) {
				r.keep(n)
				var wanted []int
				for k := range end {
					if k >= n && k > end-segments {
						wanted = append(wanted, k)
					}
				}
				wantList(t, fmt.Sprintf("%d segments, up to %d, kept from %d on", segments, end, n), r.s.Closed(), wanted...)
			}
			r.checkpoint()
			r.commit()
			r.turn()
		}
	}
}

func TestClosedBehindEnds(t *testing.T) {
	r := formatted(t, small)
	r.keep(0)
	wantList(t, "below the first one", r.s.Closed(), 0)
	r.commit()
	r.turn()
	r.keep(1)
	r.swap(disk(1, 2, 3, 4), 2, 0)
	wantList(t, "behind a Swap", r.s.Closed())
	r.keep(1)
	wantList(t, "behind a Swap, kept from 1 on", r.s.Closed(), 1, 2)
	r.open()
	wantList(t, "opened", r.s.Closed())
	s := api.Shape{Blocks: 4, Segments: 64, Size: 4}
	far := &rig{t: t, shape: s, d: craft(t, s, api.Control{Gen: 1, Timeline: 1, Redo: 4*mostSegment + 1, Low: 1})}
	far.open()
	l := far.s.Closed()
	want(t, "far on: how many", len(l), 63)
	want(t, "far on: the first one", l[0], mostSegment-63)
	want(t, "far on: the last one", l[62], mostSegment-1)
	far.keep(math.MaxInt)
	wantList(t, "far on, kept from far on", far.s.Closed())
}

// P14.4: Segment, Since, Image, Status

func TestSegment(t *testing.T) {
	r := formatted(t, small)
	for n := 1; n <= 5; n++ {
		r.commit(byte(n%4), byte(n))
	}
	all := r.d.Image()
	for _, n := range []int{0, 1, 2, 3, 4, 5, 100, 1 << 40, math.MaxInt - 1, math.MaxInt} {
		b, e := r.s.Segment(n)
		want(t, "Segment", e, api.OK)
		at := 64 * (10 + n%3*8)
		wantBytes(t, fmt.Sprint("Segment ", n), b, all[at:at+64*8])
	}
	for _, n := range []int{-1, -2, -3, math.MinInt, math.MinInt + 1} {
		b, e := r.s.Segment(n)
		wantNothing(t, "below 0", len(b), e, api.ErrArg)
	}
}

func TestSince(t *testing.T) {
	r := formatted(t, api.Shape{Blocks: 4, Segments: 3, Size: 32})
	for n, pairs := range [][]byte{{0, 1}, {1, 2, 3, 4}, {}, {1, 5}, {0, 6}} {
		want(t, "Commit", r.commit(pairs...), n+1)
	}
	for n, wanted := range map[int][]int{
		-1: {0, 1, 2, 3}, 0: {0, 1, 3}, 1: {0, 1, 3}, 2: {0, 1}, 3: {0, 1}, 4: {0}, 5: nil, 6: nil, math.MaxInt: nil, math.MinInt: {0, 1, 2, 3},
	} {
		wantList(t, fmt.Sprint("Since ", n), r.s.Since(n), wanted...)
	}
	r.begun(2, 9)
	r.checkpoint()
	r.turn()
	wantList(t, "behind Checkpoint and Turn", r.s.Since(0), 0, 1, 3)
	r.open()
	wantList(t, "opened", r.s.Since(4), 0, 1, 2, 3)
	wantList(t, "opened", r.s.Since(5))
	r.commit(2, 8)
	wantList(t, "and gone on", r.s.Since(5), 2)
}

func TestImage(t *testing.T) {
	r := formatted(t, small)
	x, e := r.s.Image()
	want(t, "Image", e, api.OK)
	h := r.begun(0, 50)
	r.commit(1, 7)
	y, e := r.s.Image()
	want(t, "Image", e, api.OK)
	wantList(t, "what differs", image.Diff(x, y), 1)
	wantBytes(t, "the elder one stays", x.Bytes(), disk(0, 0, 0, 0))
	want(t, "Abort", r.s.Abort(h), api.OK)
	r.wantDisk("what is committed", disk(0, 7, 0, 0))
}

// P14.5: Swap

// refusedSwap: an error, and nothing is changed.
func (r *rig) refusedSwap(what string, x *image.Disk, timeline, number int, wanted api.Errno) {
	r.t.Helper()
	was, calls, stays := r.seen(), r.d.Calls(), r.d.Image()
	want(r.t, what, r.s.Swap(x, timeline, number), wanted)
	want(r.t, what+": what is seen", r.seen(), was)
	wantSame(r.t, what, r.d, calls, stays)
}

func TestSwapOfWrongArguments(t *testing.T) {
	r := formatted(t, small)
	r.begun(0, 1)
	right := imageOf(t, disk(1, 2, 3, 4))
	for _, full := range []bool{false, true} {
		for _, n := range []int{1, 2, 3, 5, 64} {
			x, e := image.New(n)
			want(t, "a disk", e, api.OK)
			r.refusedSwap("other blocks", x, 1, 0, api.ErrArg)
		}
		r.refusedSwap("no disk", nil, 1, 0, api.ErrArg)
		for _, n := range append(ends(), 0, mostTimeline+1) {
			if n < 1 || n > mostTimeline {
				r.refusedSwap("no such timeline", right, n, 0, api.ErrArg)
			}
		}
		for _, n := range append(ends(), mostCommit+1) {
			if n < 0 || n > mostCommit {
				r.refusedSwap("no such number", right, 1, n, api.ErrArg)
			}
		}
		if full {
			break
		}
		for range 6 {
			r.commit(0, 1)
		}
	}
	r.refusedSwap("full", right, 1, 0, api.ErrLog)
}

func TestSwapOfEdges(t *testing.T) {
	for _, timeline := range []int{1, 2, mostTimeline - 1, mostTimeline} {
		for _, number := range []int{0, 1, mostCommit - 1, mostCommit} {
			r := formatted(t, small)
			r.swap(disk(1, 2, 3, 4), timeline, number)
			c := api.Control{Gen: 2, Epoch: 1, Area: 1, Timeline: timeline, Number: number, Redo: 16, Low: 2}
			want(t, "the control", counts(t, r.d), c)
			wantStands(t, "the head", r.d, small, 16, 1, head(timeline, min(number+1, mostCommit)))
			r.wantStatus("swapped", api.Status{Timeline: timeline, Number: number, Area: 1, Epoch: 1, End: 17, Redo: 16, Keep: 2})
		}
	}
}

// TestSwap: the disk goes to the other area, then the head, a flush, the control, a flush.
func TestSwap(t *testing.T) {
	r := formatted(t, small)
	r.commit(0, 99, 3, 98)
	r.begun(1, 97)
	last := r.begin()
	was, calls := r.d.Image(), r.d.Calls()
	r.swap(disk(11, 12, 13, 14), 6, 40)
	c := api.Control{Gen: 2, Epoch: 1, Area: 1, Timeline: 6, Number: 40, Redo: 16, Low: 2}
	copy(was, control.Put(c))
	copy(was[64*6:], disk(11, 12, 13, 14))
	copy(was[64*sectorAt(small, 16):], framesOf(16, 1, head(6, 41)))
	wantBytes(t, "the device", r.d.Image(), was)
	want(t, "calls", r.d.Calls()-calls, 5)
	want(t, "what waits", r.d.Waiting(), 0)
	r.wantStatus("behind it", api.Status{Timeline: 6, Number: 40, Area: 1, Epoch: 1, End: 17, Redo: 16, Keep: 2})
	r.wantDisk("behind it", disk(11, 12, 13, 14))
	wantList(t, "Since(39)", r.s.Since(39), 0, 1, 2, 3)
	wantList(t, "Since(40)", r.s.Since(40))
	for h := 1; h <= last; h++ {
		want(t, "a handle of before", r.s.Write(h, 0, block(1)), api.ErrHandle)
	}
	want(t, "handles go on", r.begin(), last+1)
	want(t, "the next commit", r.commit(2, 15), 41)
	wantStands(t, "the next commit", r.d, small, 17, 1, commit(6, 41, 2, 15))
	wantList(t, "Since(40)", r.s.Since(40), 2)
	r.open()
	r.wantDisk("opened", disk(11, 12, 15, 14))
	r.wantStatus("opened", api.Status{Timeline: 6, Number: 41, Area: 1, Epoch: 2, End: 20, Redo: 16, Keep: 2})
}

// TestSwapKeepsFromItsSegmentOn, whatever was kept ahead of it.
func TestSwapKeepsFromItsSegmentOn(t *testing.T) {
	for _, n := range []int{0, 1, 2, 3, 99, mostSegment} {
		r := formatted(t, small)
		r.keep(n)
		r.swap(disk(1, 2, 3, 4), 2, 0)
		want(t, "Keep", r.s.Status().Keep, 2)
		r.open()
		want(t, "Keep, opened", r.s.Status().Keep, 2)
	}
}

// TestSwapOnceMore: the areas take turns, and each Swap takes a segment.
func TestSwapOnceMore(t *testing.T) {
	r := formatted(t, small)
	for n := 1; n < 20; n++ {
		b := disk(byte(n), byte(n+1), byte(n+2), byte(n+3))
		r.swap(b, n, 3*n)
		r.wantStatus("swapped", api.Status{Timeline: n, Number: 3 * n, Area: n % 2, Epoch: 1, End: 8*n + 9, Redo: 8*n + 8, Keep: n + 1})
		r.wantDisk("swapped", b)
	}
}

// TestSwapOnAFullLog: the segment behind the end's must be free, by the checkpoint and by what is kept.
func TestSwapOnAFullLog(t *testing.T) {
	x := imageOf(t, disk(1, 2, 3, 4))
	for segments := 3; segments <= 5; segments++ {
		r := formatted(t, api.Shape{Blocks: 4, Segments: segments, Size: 8})
		for range segments - 1 {
			r.commit()
			r.turn()
		}
		r.refusedSwap("full", x, 2, 0, api.ErrLog)
		r.keep(2)
		r.refusedSwap("the checkpoint lies back", x, 2, 0, api.ErrLog)
		r.keep(1)
		r.checkpoint()
		r.refusedSwap("a segment is kept", x, 2, 0, api.ErrLog)
		r.keep(2)
		r.swap(disk(1, 2, 3, 4), 2, 0)
		want(t, "room again", r.s.Status().End, 8*(segments+1)+1)
	}
}

func TestSwapOfASpentControl(t *testing.T) {
	r := &rig{t: t, shape: small, d: craft(t, small, api.Control{Gen: mostGen - 1, Epoch: 3, Timeline: 1, Redo: 9, Low: 1})}
	r.open()
	r.begun(0, 9)
	x := imageOf(t, disk(1, 2, 3, 4))
	r.refusedSwap("spent", x, 2, 0, api.ErrSpent)
	r.refusedSwap("spent, of a wrong timeline", x, 0, 0, api.ErrArg)
	for range 4 {
		r.commit()
		if r.s.Turn() == api.ErrLog {
			break
		}
	}
	r.refusedSwap("spent and full", x, 2, 0, api.ErrLog)
}

// TestSwapBehindTheGreatestSegment: the log's Start refuses such a one.
func TestSwapBehindTheGreatestSegment(t *testing.T) {
	for _, n := range []int{mostSegment - 1, mostSegment, mostSegment + 1} {
		d := craft(t, small, api.Control{Gen: 1, Epoch: 3, Timeline: 1, Redo: 8*n + 1, Low: n})
		r := &rig{t: t, shape: small, d: d}
		r.open()
		if n < mostSegment {
			r.swap(disk(1, 2, 3, 4), 2, 0)
			want(t, "the greatest segment", r.s.Status().End, 8*mostSegment+1)
			continue
		}
		r.begun(0, 9)
		r.refusedSwap("behind the greatest segment", imageOf(t, disk(1, 2, 3, 4)), 2, 0, api.ErrArg)
	}
}

// TestSwapThatGoesOff: behind the head's writing the log's end is behind it; all else stays in any case.
func TestSwapThatGoesOff(t *testing.T) {
	for limit := range 5 {
		r := formatted(t, small)
		r.commit(0, 99)
		h := r.begun(1, 97)
		was := r.s.Status()
		r.d.Limit(limit)
		what := fmt.Sprint("limit ", limit)
		want(t, what, r.s.Swap(imageOf(t, disk(11, 12, 13, 14)), 6, 40), api.ErrOff)
		want(t, what+": off", r.d.Off(), true)
		want(t, what+": what waits", r.d.Waiting(), []int{0, 4, 5, 0, 1}[limit])
		if limit >= 2 {
			was.End = 17
		}
		r.wantStatus(what, was)
		wantList(t, what+": Since", r.s.Since(0), 0)
		r.d.Crash(nil)
		r.wantStatus(what+", on again", was)
		r.wantDisk(what+", on again", disk(99, 0, 0, 0))
		r.wantRead(what+", on again", h, 1, 97)
		want(t, what+": the control", counts(t, r.d).Area, 0)
	}
}

// TestSwapInItsOrder: what a crash leaves of what waits, behind each call of the device.
func TestSwapInItsOrder(t *testing.T) {
	for limit := range 5 {
		r := formatted(t, small)
		was := r.d.Image()
		r.d.Limit(limit)
		want(t, "Swap", r.s.Swap(imageOf(t, disk(11, 12, 13, 14)), 6, 40), api.ErrOff)
		r.d.Crash(slices.Repeat([]bool{true}, 9))
		if limit > 0 {
			copy(was[64*6:], disk(11, 12, 13, 14))
		}
		if limit > 1 {
			copy(was[64*sectorAt(small, 16):], framesOf(16, 1, head(6, 41)))
		}
		if limit > 3 {
			copy(was, control.Put(api.Control{Gen: 2, Epoch: 1, Area: 1, Timeline: 6, Number: 40, Redo: 16, Low: 2}))
		}
		wantBytes(t, fmt.Sprint("limit ", limit), r.d.Image(), was)
	}
}
