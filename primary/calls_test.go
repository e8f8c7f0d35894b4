package primary_test

import (
	"bytes"
	"fmt"
	"slices"
	"testing"

	"breviary/api"
	"breviary/image"
	"breviary/primary"
)

// P14.3: of a store that is nil, and of one whose device is off

// wantAll calls each call that tells an error, with arguments that are right and with wrong ones: it is that error, and nothing beside it.
func wantAll(t *testing.T, what string, s *primary.Store, h int, x *image.Disk, wanted api.Errno) {
	t.Helper()
	n, e := s.Begin()
	wantNothing(t, what+": Begin", n, e, wanted)
	for _, k := range append(ends(), 0, h, h+1) {
		for _, b := range append(ends(), 0, 3, 4) {
			want(t, what+": Write", s.Write(k, b, block(1)), wanted)
			want(t, what+": Write of no block", s.Write(k, b, nil), wanted)
			l, e := s.Read(k, b)
			wantNothing(t, what+": Read", len(l), e, wanted)
		}
		l, e := s.Get(k)
		wantNothing(t, what+": Get", len(l), e, wanted)
		n, e := s.Commit(k)
		wantNothing(t, what+": Commit", n, e, wanted)
		want(t, what+": Abort", s.Abort(k), wanted)
		l, e = s.Segment(k)
		wantNothing(t, what+": Segment", len(l), e, wanted)
		want(t, what+": Swap", s.Swap(x, k, k), wanted)
		want(t, what+": Swap of no disk", s.Swap(nil, k, k), wanted)
	}
	want(t, what+": Swap", s.Swap(x, 1, 1), wanted)
	want(t, what+": Checkpoint", s.Checkpoint(), wanted)
	want(t, what+": Turn", s.Turn(), wanted)
	if x, e := s.Image(); x != nil || e != wanted {
		t.Errorf("%s: Image: %v, %v, wanted %v", what, x, e, wanted)
	}
}

func wantNothing(t *testing.T, what string, n int, e, wanted api.Errno) {
	t.Helper()
	want(t, what, e, wanted)
	want(t, what+": beside the error", n, 0)
}

// wantQuiet: calls that tell no error tell nothing.
func wantQuiet(t *testing.T, what string, s *primary.Store) {
	t.Helper()
	for _, n := range append(ends(), 0, 1) {
		s.Keep(n)
		wantList(t, what+": Since", s.Since(n))
	}
	wantList(t, what+": Closed", s.Closed())
	want(t, what+": Status", s.Status(), api.Status{})
}

func TestNilStore(t *testing.T) {
	wantAll(t, "nil", nil, 1, imageOf(t, disk(1, 2, 3, 4)), api.ErrNil)
	wantQuiet(t, "nil", nil)
}

// TestStoreThatNobodyMade: of it nothing is promised but that no call panics.
func TestStoreThatNobodyMade(t *testing.T) {
	var s primary.Store
	wantAll(t, "nobody's", &s, 1, imageOf(t, disk(1, 2, 3, 4)), api.ErrNil)
	wantQuiet(t, "nobody's", &s)
}

func TestStoreThatIsOff(t *testing.T) {
	r := formatted(t, small)
	for n := 1; n <= 5; n++ {
		r.commit(byte(n%4), byte(n))
	}
	r.checkpoint()
	r.commit(3, 9)
	h := r.begun(0, 7)
	was := r.seen()
	turnOff(t, r.d)
	calls, stays := r.d.Calls(), r.d.Image()
	wantAll(t, "off", r.s, h, imageOf(t, disk(1, 2, 3, 4)), api.ErrOff)
	wantSame(t, "off", r.d, calls, stays)
	want(t, "Status", r.s.Status(), was.status)
	wantList(t, "Since(4)", r.s.Since(4), 1, 3)
	wantList(t, "Closed", r.s.Closed(), 1, 2)
	r.keep(2)
	wantList(t, "Closed", r.s.Closed(), 2)
	want(t, "Keep", r.s.Status().Keep, 2)
	r.keep(1)
	want(t, "off still", r.d.Off(), true)
	r.d.Crash(nil)
	want(t, "on again", r.seen(), was)
	b, e := r.s.Read(h, 0)
	want(t, "on again: Read", e, api.OK)
	wantBytes(t, "on again: Read", b, block(7))
}

// TestStoreThatIsOffAndFresh: ErrOff is ahead of Turn's own error, and of Begin's.
func TestStoreThatIsOffAndFresh(t *testing.T) {
	r := formatted(t, small)
	for range 8 {
		r.begin()
	}
	turnOff(t, r.d)
	want(t, "Turn", r.s.Turn(), api.ErrOff)
	_, e := r.s.Begin()
	want(t, "Begin", e, api.ErrOff)
}

// P14.3: Begin, Write, Read, Get, Abort

func TestBegin(t *testing.T) {
	r := formatted(t, small)
	for h := 1; h <= 8; h++ {
		want(t, "Begin", r.begin(), h)
		want(t, "open ones", r.s.Status().Open, h)
	}
	for range 2 {
		n, e := r.s.Begin()
		wantNothing(t, "the ninth", n, e, api.ErrMany)
		want(t, "open ones", r.s.Status().Open, 8)
	}
	want(t, "Abort", r.s.Abort(3), api.OK)
	want(t, "open ones", r.s.Status().Open, 7)
	want(t, "Begin behind Abort", r.begin(), 9)
	_, e := r.s.Commit(1)
	want(t, "Commit", e, api.OK)
	want(t, "open ones", r.s.Status().Open, 7)
	want(t, "Begin behind Commit", r.begin(), 10)
	r.checkpoint()
	r.turn()
	want(t, "open behind Checkpoint and Turn", r.s.Status().Open, 8)
	calls := r.d.Calls()
	want(t, "Abort", r.s.Abort(10), api.OK)
	want(t, "Begin", r.begin(), 11)
	want(t, "calls of the device", r.d.Calls(), calls)
}

func TestWriteAndReadTellTheBooksErrors(t *testing.T) {
	r := formatted(t, small)
	gone := r.begun(0, 1)
	want(t, "Abort", r.s.Abort(gone), api.OK)
	done := r.begun(0, 2)
	_, e := r.s.Commit(done)
	want(t, "Commit", e, api.OK)
	h := r.begin()
	for _, k := range append(ends(), 0, gone, done, h+1) {
		for _, n := range []int{-1, 0, 3, 4} {
			want(t, "no such handle: Write", r.s.Write(k, n, block(1)), api.ErrHandle)
			want(t, "no such handle, no block: Write", r.s.Write(k, n, nil), api.ErrHandle)
			b, e := r.s.Read(k, n)
			wantNothing(t, "no such handle: Read", len(b), e, api.ErrHandle)
		}
		want(t, "no such handle: Abort", r.s.Abort(k), api.ErrHandle)
		r.refusedOf("no such handle: Commit", k, api.ErrHandle)
	}
	for _, n := range append(ends(), 4, 5, 64) {
		want(t, "no such block: Write", r.s.Write(h, n, block(1)), api.ErrBlock)
		want(t, "no such block, of no size: Write", r.s.Write(h, n, nil), api.ErrBlock)
		b, e := r.s.Read(h, n)
		wantNothing(t, "no such block: Read", len(b), e, api.ErrBlock)
		b, e = r.s.Get(n)
		wantNothing(t, "no such block: Get", len(b), e, api.ErrBlock)
	}
	for _, length := range []int{0, 1, 63, 65, 128} {
		want(t, "no such size: Write", r.s.Write(h, 1, make([]byte, length)), api.ErrSize)
	}
	b, e := r.s.Read(h, 1)
	want(t, "Read behind refused writes", e, api.OK)
	wantBytes(t, "Read behind refused writes", b, block(0))
}

func (r *rig) wantRead(what string, h, n int, wanted byte) {
	r.t.Helper()
	b, e := r.s.Read(h, n)
	want(r.t, what, e, api.OK)
	wantBytes(r.t, what, b, block(wanted))
}

// TestReadOwnWritesAlone: else what is committed, at once.
func TestReadOwnWritesAlone(t *testing.T) {
	r := formatted(t, small)
	r.commit(0, 1, 1, 2)
	one, other := r.begin(), r.begin()
	r.write(one, 0, 11)
	r.write(other, 0, 21)
	r.write(other, 2, 22)
	r.wantRead("its own", one, 0, 11)
	r.wantRead("its own", other, 0, 21)
	r.wantRead("the committed one", one, 1, 2)
	r.wantRead("the committed one", one, 2, 0)
	r.wantDisk("nothing was committed", disk(1, 2, 0, 0))
	r.write(one, 0, 12)
	r.wantRead("written over", one, 0, 12)
	n, e := r.s.Commit(other)
	want(t, "Commit", e, api.OK)
	want(t, "Commit", n, 2)
	r.wantRead("its own still", one, 0, 12)
	r.wantRead("what the other one committed", one, 2, 22)
	r.wantDisk("committed", disk(21, 2, 22, 0))
	r.checkpoint()
	r.wantRead("saved", one, 2, 22)
	want(t, "Abort", r.s.Abort(one), api.OK)
	r.wantDisk("behind Abort", disk(21, 2, 22, 0))
	r.wantRead("begun later", r.begin(), 0, 21)
}

// P14.3: Commit

// TestCommitsBytes: the record stands at the log's end, of the control's epoch, and the device is flushed.
func TestCommitsBytes(t *testing.T) {
	s := api.Shape{Blocks: 4, Segments: 3, Size: 16}
	r := formatted(t, s)
	r.open()
	r.open()
	end := 17
	for n, pairs := range [][]byte{{}, {3, 9}, {1, 8, 0, 7}, {2, 6, 2, 5}} {
		records := commit(1, n+1, pairs...)
		if n == 2 {
			records = commit(1, 3, 0, 7, 1, 8)
		}
		if n == 3 {
			records = commit(1, 4, 2, 5)
		}
		was, calls := r.d.Image(), r.d.Calls()
		want(t, "Commit", r.commit(pairs...), n+1)
		copy(was[64*sectorAt(s, end):], framesOf(end, 3, records))
		end += sectorsOf(len(records.Writes))
		wantBytes(t, "the device", r.d.Image(), was)
		want(t, "calls", r.d.Calls()-calls, 2)
		want(t, "what waits", r.d.Waiting(), 0)
		r.wantStatus("behind it", api.Status{Timeline: 1, Number: n + 1, Epoch: 3, End: end, Redo: 16, Keep: 1})
	}
	r.wantDisk("all of them", disk(7, 8, 5, 9))
	wantList(t, "Since(0)", r.s.Since(0), 0, 1, 2, 3)
	wantList(t, "Since(2)", r.s.Since(2), 0, 1, 2)
	wantList(t, "Since(3)", r.s.Since(3), 2)
	wantList(t, "Since(4)", r.s.Since(4))
}

// TestCommitThatTurns: a switch, a head and the commit in the next segment, then a flush.
func TestCommitThatTurns(t *testing.T) {
	r := formatted(t, small)
	r.commit(0, 1)
	r.commit(0, 2)
	was, calls := r.d.Image(), r.d.Calls()
	r.commit(3, 4)
	copy(was[64*sectorAt(small, 15):], framesOf(15, 1, switched()))
	copy(was[64*sectorAt(small, 16):], framesOf(16, 1, head(1, 3)))
	copy(was[64*sectorAt(small, 17):], framesOf(17, 1, commit(1, 3, 3, 4)))
	wantBytes(t, "the device", r.d.Image(), was)
	want(t, "calls", r.d.Calls()-calls, 4)
	want(t, "End", r.s.Status().End, 20)
}

// TestCommitEndsItsTransaction, and no other one.
func TestCommitEndsItsTransaction(t *testing.T) {
	r := formatted(t, small)
	one, other := r.begun(0, 1), r.begun(1, 2)
	n, e := r.s.Commit(one)
	want(t, "Commit", n, 1)
	want(t, "Commit", e, api.OK)
	r.refusedOf("once more", one, api.ErrHandle)
	want(t, "Write", r.s.Write(one, 0, block(3)), api.ErrHandle)
	r.wantRead("the other one", other, 1, 2)
	n, e = r.s.Commit(other)
	want(t, "Commit of the other one", n, 2)
	want(t, "Commit of the other one", e, api.OK)
}

// TestCommitOfTooMuch: more sectors than a segment has between its head and its last sector.
func TestCommitOfTooMuch(t *testing.T) {
	for size := 4; size <= 64; size++ {
		r := formatted(t, api.Shape{Blocks: 64, Segments: 3, Size: size})
		most := ((size-2)*40 - 15) / 66
		var pairs []byte
		for n := range most {
			pairs = append(pairs, byte(63-n), byte(n+1))
		}
		r.refused("a write too many", api.ErrSize, append(slices.Clone(pairs), 0, 99)...)
		want(t, "as many as go in", r.commit(pairs...), 1)
		wantStands(t, "as many as go in", r.d, r.shape, size+1, 1, commit(1, 1, rising(pairs)...))
		all := r.begin()
		for n := range 64 {
			r.write(all, n, 1)
		}
		r.refusedOf("all blocks", all, api.ErrSize)
	}
}

// rising pairs, of pairs that fall.
func rising(pairs []byte) []byte {
	l := slices.Collect(slices.Chunk(pairs, 2))
	slices.Reverse(l)
	return slices.Concat(l...)
}

// TestCommitOnAFullLog: the ring is full while the checkpoint, or what is kept, lies that far back.
func TestCommitOnAFullLog(t *testing.T) {
	for segments := 3; segments <= 6; segments++ {
		r := formatted(t, api.Shape{Blocks: 4, Segments: segments, Size: 8})
		n := 0
		for range 2 * segments {
			n++
			want(t, "Commit", r.commit(byte(n%4), byte(n)), n)
		}
		r.refused("full", api.ErrLog, 0, 99)
		r.refused("full, empty", api.ErrLog)
		r.keep(segments)
		r.refused("the checkpoint lies back", api.ErrLog, 0, 99)
		r.keep(1)
		r.checkpoint()
		r.refused("a segment is kept", api.ErrLog, 0, 99)
		for k := 2; k <= segments; k++ {
			r.keep(k)
			for range 2 {
				n++
				want(t, "room again", r.commit(byte(n%4), byte(n)), n)
			}
			r.refused("full again", api.ErrLog, 0, 99)
		}
		r.keep(segments + 1)
		r.refused("the checkpoint lies back", api.ErrLog, 0, 99)
		r.keep(3 * segments)
		r.checkpoint()
		n++
		want(t, "room again", r.commit(0, 9), n)
	}
}

// TestCommitIntoTheLastOfTheRing: what goes into the segment of the end needs no room behind it.
func TestCommitIntoTheLastOfTheRing(t *testing.T) {
	r := formatted(t, small)
	for range 5 {
		r.commit(0, 1)
	}
	r.refused("four sectors aren't left", api.ErrLog, 0, 1, 1, 2)
	want(t, "three are", r.commit(0, 1), 6)
	r.refused("none is left", api.ErrLog)
}

func TestCommitBehindTheGreatestNumber(t *testing.T) {
	r := formatted(t, small)
	r.swap(disk(1, 2, 3, 4), 5, mostCommit-1)
	wantStands(t, "the head", r.d, small, 16, 1, head(5, mostCommit))
	want(t, "the last one", r.commit(0, 9), mostCommit)
	wantStands(t, "the last one", r.d, small, 17, 1, commit(5, mostCommit, 0, 9))
	for range 2 {
		r.refused("spent", api.ErrSpent, 1, 8)
		r.refused("spent, empty", api.ErrSpent)
		r.refused("spent, of too much", api.ErrSpent, 0, 1, 1, 2, 2, 3, 3, 4)
		r.refusedOf("spent, no such handle", 99, api.ErrHandle)
		r.turn()
		wantStands(t, "the next head", r.d, small, 24, r.s.Status().Epoch, head(5, mostCommit))
		want(t, "Turn of a fresh one", r.s.Turn(), api.ErrTurn)
		r.swap(disk(9, 2, 3, 4), 5, mostCommit)
		wantStands(t, "Swap's head", r.d, small, 32, r.s.Status().Epoch, head(5, mostCommit))
		r.open()
		r.wantDisk("opened", disk(9, 2, 3, 4))
		want(t, "the number", r.s.Status().Number, mostCommit)
		wantList(t, "Since", r.s.Since(mostCommit))
		wantList(t, "Since the one ahead", r.s.Since(mostCommit-1), 0, 1, 2, 3)
		r.format()
		r.swap(disk(1, 2, 3, 4), 5, mostCommit-1)
		r.commit(0, 9)
	}
}

// TestCommitsErrorsInOrder: a handle, a spent number, a size, a full log.
func TestCommitsErrorsInOrder(t *testing.T) {
	r := formatted(t, small)
	for range 6 {
		r.commit(0, 1)
	}
	r.refused("full, of too much", api.ErrSize, 0, 1, 1, 2, 2, 3, 3, 4)
	r.refusedOf("full, no such handle", 99, api.ErrHandle)
	r.refused("full", api.ErrLog, 0, 1, 1, 2)
	r = formatted(t, small)
	r.swap(disk(1, 2, 3, 4), 1, mostCommit-6)
	r.keep(2)
	for range 6 {
		r.commit(0, 1)
	}
	r.refused("spent and full", api.ErrSpent, 0, 1)
}

// P14.3: Commit, where the device goes off

// TestCommitThatGoesOff: behind the log's own writes its end is behind them, else it stays; all else stays in any case.
func TestCommitThatGoesOff(t *testing.T) {
	for _, x := range []struct{ ahead, calls, end, waits int }{{1, 2, 15, 3}, {2, 4, 20, 5}} {
		for limit := range x.calls {
			r := formatted(t, small)
			for range x.ahead {
				r.commit(2, 7)
			}
			h := r.begun(0, 1)
			r.begin()
			was, closed := r.s.Status(), r.s.Closed()
			r.d.Limit(limit)
			n, e := r.s.Commit(h)
			what := fmt.Sprintf("%d ahead, limit %d", x.ahead, limit)
			wantNothing(t, what, n, e, api.ErrOff)
			want(t, what+": off", r.d.Off(), true)
			want(t, what+": what waits", r.d.Waiting(), [][]int{{0, 3}, {0, 1, 2, 5}}[x.ahead-1][limit])
			if limit == x.calls-1 {
				was.End = x.end
			}
			r.wantStatus(what, was)
			wantList(t, what+": Since", r.s.Since(0), 2)
			if limit < x.calls-1 {
				wantList(t, what+": Closed", r.s.Closed(), closed...)
			}
			r.d.Crash(nil)
			r.wantStatus(what+", on again", was)
			r.wantDisk(what+", on again", disk(0, 0, 7, 0))
			r.wantRead(what+", on again", h, 0, 1)
		}
	}
}

// P14.3: Get

// TestGetOfTheDevice: what isn't in hand is read from the control's area, each time.
func TestGetOfTheDevice(t *testing.T) {
	r := formatted(t, small)
	r.commit(1, 5)
	lay(t, r.d, 2, disk(61, 62, 63, 64))
	r.wantDisk("one is in hand", disk(61, 5, 63, 64))
	r.checkpoint()
	r.wantDisk("saved", disk(61, 5, 63, 64))
	r.swap(disk(1, 2, 3, 4), 2, 0)
	lay(t, r.d, 6, disk(71, 72, 73, 74))
	r.wantDisk("of the area 1", disk(71, 72, 73, 74))
	b, e := r.s.Get(2)
	if e != api.OK || !bytes.Equal(b, block(73)) {
		t.Errorf("Get: %v, %v", b, e)
	}
}
