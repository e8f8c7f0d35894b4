package ring_test

import (
	"fmt"
	"math/rand"
	"slices"
	"testing"

	"breviary/api"
	"breviary/ring"
)

// P8.5

// journal is a log that goes through crashes, and what was written from a place on, in order.
type journal struct {
	*rig
	first   int // the beginning of a segment, from which it is opened
	epoch   int
	number  int // of the next commit; it never comes again, so that what is written anew differs from what a crash left
	written []api.Entry
	flushed int // of these
}

func begun(t *testing.T, segments, size int) *journal {
	t.Helper()
	j := &journal{rig: logOf(t, segments, size), epoch: 1, number: 1}
	j.first = size
	return j
}

// done tells how many of the parts a call wrote, up to the crash, and those were written.
func (j *journal) done(parts []api.Entry, call func() api.Errno) {
	j.t.Helper()
	calls, end := j.d.Calls(), j.l.End()
	e := call()
	n := j.d.Calls() - calls
	j.written = append(j.written, parts[:n]...)
	switch e {
	case api.OK:
		last := parts[len(parts)-1]
		want(j.t, "parts", n, len(parts))
		want(j.t, "End", j.l.End(), last.Lsn+last.Sectors)
	case api.ErrOff:
		want(j.t, "End, off", j.l.End(), end)
	default:
		j.t.Fatalf("%v", e)
	}
}

func (j *journal) start() {
	j.t.Helper()
	place := j.l.End()
	if place == 0 {
		place = j.first
	}
	j.done([]api.Entry{at(place, j.epoch, head(1, j.number))}, func() api.Errno {
		return j.l.Start(place/j.size, j.epoch, 1, j.number)
	})
}

// next tells the parts by which the log turns.
func (j *journal) next() []api.Entry {
	end := j.l.End()
	return []api.Entry{at(end, j.epoch, switched()), at((end/j.size+1)*j.size, j.epoch, head(1, j.number))}
}

// hasNext: is the next segment's part free?
func (j *journal) hasNext() bool {
	return j.l.End()/j.size+1 < j.first/j.size+j.segments
}

func (j *journal) add(writes int) {
	j.t.Helper()
	r, end := commit(j.number, writes), j.l.End()
	parts := []api.Entry{at(end, j.epoch, r)}
	if end%j.size+sectorsOf(writes) >= j.size {
		if !j.hasNext() {
			want(j.t, "full", j.l.Room(r, j.first/j.size), api.ErrLog)
			return
		}
		parts = j.next()
		parts = append(parts, at(parts[1].Lsn+1, j.epoch, r))
	}
	j.done(parts, func() api.Errno {
		_, e := j.l.Add(r, j.epoch, j.first/j.size)
		return e
	})
	j.number++
}

func (j *journal) turn() {
	j.t.Helper()
	if j.l.Fresh() || !j.hasNext() {
		return
	}
	j.done(j.next(), func() api.Errno { return j.l.Turn(j.epoch, j.first/j.size, 1, j.number) })
}

func (j *journal) flush() {
	if j.d.Flush() == api.OK {
		j.flushed = len(j.written)
	}
}

// pass leaves elder segments: the log is opened from a later one on, whose head was flushed.
func (j *journal) pass() {
	for i := j.flushed - 1; i > 0; i-- {
		if x := j.written[i]; x.R.Kind == 1 {
			j.first, j.written, j.flushed = x.Lsn, slices.Clone(j.written[i:]), j.flushed-i
			return
		}
	}
}

// crash and opening: what was flushed is told, and a beginning of what came behind it.
func (j *journal) crash(what string, keep []bool) {
	j.t.Helper()
	j.d.Crash(keep)
	l, e := ring.New(j.d, 1, j.segments, j.size)
	want(j.t, "New", e, api.OK)
	j.l = l
	got, e := l.Open(j.first, j.epoch)
	if e != api.OK || len(got) < j.flushed || len(got) > len(j.written) || !alike(got, j.written[:len(got)]) {
		j.t.Fatalf("%s: %v %s, wanted the first %d or more of %s", what, e, short(got), j.flushed, short(j.written))
	}
	want(j.t, what+": End", l.End(), endOf(j.first, j.size, got))
	j.wantOpen(what+", once again", j.first, j.epoch, l.End(), got)
	j.written, j.flushed = j.written[:len(got)], len(got)
	j.epoch++
	if l.End()%j.size == 0 {
		j.start()
	}
}

// keepOf the bits of n.
func keepOf(n, count int) []bool {
	keep := make([]bool, count)
	for i := range keep {
		keep[i] = n>>i&1 == 1
	}
	return keep
}

// story goes from the beginning on, through three segments and a turn; behind the limit nothing is done any more.
func (j *journal) story(limit int) {
	j.d.Limit(limit)
	j.start()
	steps := []func(){
		j.flush, func() { j.add(0) }, func() { j.add(1) }, j.flush, func() { j.add(1) }, func() { j.add(0) }, j.flush, j.turn, j.flush, j.flush,
	}
	for _, step := range steps {
		if !j.d.Off() {
			step()
		}
	}
}

// again is another story, behind a crash, whose commits end at other places, and at the same ones.
func (j *journal) again(writes ...int) {
	for _, n := range writes {
		if !j.d.Off() {
			j.add(n)
		}
	}
}

// Crashes at each call, with each subset of what waits; then the log goes on, and the next crash leaves all, some or nothing.
func TestCrashAtEachCall(t *testing.T) {
	calls, most := 0, 0
	for limit := 0; ; limit++ {
		probe := begun(t, 3, 6)
		probe.story(limit)
		waiting := probe.d.Waiting()
		most = max(most, waiting)
		for n := range 1 << waiting {
			for next := range 3 {
				what := fmt.Sprintf("limit %d, %b stays, then %d", limit, n, next)
				j := begun(t, 3, 6)
				j.story(limit)
				j.crash(what, keepOf(n, waiting))
				j.again(next%2, 0, 0)
				if next == 1 {
					j.flush()
				}
				j.again(1)
				j.crash(what+", the second one", keepOf([]int{-1, 0b1011, 0}[next], j.d.Waiting()))
			}
		}
		if !probe.d.Off() {
			break
		}
		calls = limit + 1
	}
	if calls < 12 || most < 6 {
		t.Errorf("%d calls, at most %d sectors wait", calls, most)
	}
}

// Where all is flushed, a crash takes nothing; where nothing is, and nothing stays, nothing is told.
func TestCrashOfAllAndOfNothing(t *testing.T) {
	for _, flushed := range []bool{false, true} {
		j := begun(t, 3, 6)
		j.start()
		j.again(1, 0, 1, 0, 1)
		count := len(j.written)
		if flushed {
			j.flush()
		}
		waiting := j.d.Waiting()
		j.d.Crash(make([]bool, waiting))
		got, e := j.l.Open(j.first, 1)
		want(t, "Open", e, api.OK)
		if flushed {
			want(t, "entries", len(got), count)
			wantEntries(t, "all was flushed", got, j.written)
			continue
		}
		want(t, "entries", len(got), 0)
		want(t, "End", j.l.End(), j.first)
	}
}

// Many crashes, one behind the other, round the ring.
func TestManyCrashes(t *testing.T) {
	for seed := range 150 {
		r := rand.New(rand.NewSource(int64(seed)))
		j := begun(t, 3+r.Intn(2), 5+r.Intn(6))
		j.start()
		for round := range 12 {
			if r.Intn(2) == 0 {
				j.d.Limit(r.Intn(12))
			}
			for n := 4 + r.Intn(12); n > 0 && !j.d.Off(); n-- {
				j.any(r)
			}
			keep := make([]bool, j.d.Waiting())
			often := r.Intn(5)
			for i := range keep {
				keep[i] = r.Intn(4) < often
			}
			j.crash(fmt.Sprintf("seed %d, round %d", seed, round), keep)
		}
		if j.epoch != 13 {
			t.Errorf("the epoch %d", j.epoch)
		}
	}
}

// any call.
func (j *journal) any(r *rand.Rand) {
	j.t.Helper()
	switch n := r.Intn(20); {
	case n < 3:
		j.flush()
	case n < 5:
		j.turn()
	case n < 8:
		j.pass()
	case n < 15:
		j.add(0)
	default:
		j.add(1)
	}
}
