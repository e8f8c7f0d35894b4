package primary_test

import (
	"fmt"
	"slices"
	"testing"

	"breviary/api"
	"breviary/primary"
)

// P14.6

// world is what a store stands for.
type world struct {
	timeline, number int
	disk             string
}

func (r *rig) world() world {
	r.t.Helper()
	x, e := r.s.Image()
	want(r.t, "Image", e, api.OK)
	st := r.s.Status()
	return world{st.Timeline, st.Number, string(x.Bytes())}
}

func (w world) String() string {
	return fmt.Sprintf("(%d, %d) %s", w.timeline, w.number, short([]byte(w.disk)))
}

// step of a story; a device that goes off in it cuts it short.
type step func(r *rig) api.Errno

func committing(pairs ...byte) step {
	return func(r *rig) api.Errno {
		h, e := r.s.Begin()
		for pair := range slices.Chunk(pairs, 2) {
			if e == api.OK {
				e = r.s.Write(h, int(pair[0]), block(pair[1]))
			}
		}
		if e == api.OK {
			_, e = r.s.Commit(h)
		}
		return e
	}
}

func swapping(b []byte, timeline, number int) step {
	return func(r *rig) api.Errno { return r.s.Swap(imageOf(r.t, b), timeline, number) }
}

func checkpointing(r *rig) api.Errno { return r.s.Checkpoint() }

func turning(r *rig) api.Errno { return r.s.Turn() }

// letting go of all segments: the log is freed up to the checkpoint.
func letting(r *rig) api.Errno {
	r.s.Keep(mostSegment)
	return api.OK
}

// story on a ring of four segments of eight sectors: it goes round, by commits that turn, and by turns.
func story() []step {
	return []step{
		committing(0, 1), committing(1, 2), committing(2, 3, 0, 4), // turns
		checkpointing, committing(3, 5), turning, letting, committing(), checkpointing, committing(1, 6), committing(1, 7, 2, 8), // turns
		swapping(disk(11, 12, 13, 14), 2, 3), letting, committing(0, 15), committing(2, 16), committing(3, 17), // turns
		checkpointing, turning, committing(1, 18), swapping(disk(21, 22, 23, 24), 2, 9), letting, checkpointing, committing(0, 25),
	}
}

var round = api.Shape{Blocks: 4, Segments: 4, Size: 8}

// told tells the story up to the step in which the device goes off, and how many steps were done.
func told(r *rig) int {
	r.t.Helper()
	for n, do := range story() {
		if e := do(r); e == api.ErrOff {
			return n
		} else if e != api.OK {
			r.t.Fatalf("the step %d: %v", n, e)
		}
	}
	return len(story())
}

// worlds of the story: ahead of each step, and behind the last one.
func worlds(t *testing.T) []world {
	t.Helper()
	r := formatted(t, round)
	l := []world{r.world()}
	for n, do := range story() {
		if e := do(r); e != api.OK {
			t.Fatalf("the step %d: %v", n, e)
		}
		l = append(l, r.world())
	}
	return l
}

// keepOf the bits of n.
func keepOf(n, count int) []bool {
	keep := make([]bool, count)
	for i := range keep {
		keep[i] = n>>i&1 == 1
	}
	return keep
}

// crashed store: the story was told up to a limit of the device's calls, and of what waited a subset is left.
func crashed(t *testing.T, limit, left int) (*rig, int, int) {
	t.Helper()
	r := formatted(t, round)
	r.d.Limit(limit)
	n := told(r)
	waits := r.d.Waiting()
	r.d.Crash(keepOf(left, waits))
	return r, n, waits
}

// eachCrash goes over all limits of the story's calls, and all subsets of what waits then.
func eachCrash(t *testing.T, do func(what string, r *rig, done int)) {
	t.Helper()
	for limit := 0; ; limit++ {
		for left := 0; ; left++ {
			r, done, waits := crashed(t, limit, left)
			do(fmt.Sprintf("limit %d, left %b", limit, left), r, done)
			if done == len(story()) {
				return
			}
			if left+1 == 1<<waits {
				break
			}
		}
	}
}

// wantOne: the world is that ahead of the step that was under way, or that behind it.
func (r *rig) wantOne(what string, l []world, done int) world {
	r.t.Helper()
	w := r.world()
	if w != l[done] && w != l[min(done+1, len(l)-1)] {
		r.t.Fatalf("%s: %v, wanted %v or %v", what, w, l[done], l[min(done+1, len(l)-1)])
	}
	return w
}

// wantWorld opens the store: it is that world.
func (r *rig) wantWorld(what string, w world) {
	r.t.Helper()
	r.open()
	if got := r.world(); got != w {
		r.t.Fatalf("%s: %v, wanted %v", what, got, w)
	}
}

// TestCrash: what was committed is there, and nothing else than it, or it and the commit under way; opened twice it is as opened once.
func TestCrash(t *testing.T) {
	l := worlds(t)
	eachCrash(t, func(what string, r *rig, done int) {
		r.open()
		r.wantOne(what, l, done)
		v := r.seen()
		for range 2 {
			r.open()
			v.status.Epoch++
			want(t, what+": opened again", r.seen(), v)
		}
	})
}

// TestCrashInOpen: at each of its calls, with what waited left or lost.
func TestCrashInOpen(t *testing.T) {
	l := worlds(t)
	eachCrash(t, func(what string, r *rig, done int) {
		stays := r.d.Image()
		r.open()
		w := r.wantOne(what, l, done)
		for limit := range 4 {
			for left := range 2 {
				again := &rig{t: t, shape: round, d: device(t, r.d.Size())}
				lay(t, again.d, 0, stays)
				again.d.Limit(limit)
				_, e := primary.Open(again.d, round)
				if e != api.OK && e != api.ErrOff {
					t.Fatalf("%s: Open: %v", what, e)
				}
				again.d.Crash(keepOf(left, 1))
				again.wantWorld(fmt.Sprintf("%s, then limit %d, left %d", what, limit, left), w)
			}
		}
	})
}

// TestCrashAndOn: whatever is done behind a crash, nothing that the crash had cut off comes back.
func TestCrashAndOn(t *testing.T) {
	l := worlds(t)
	commits := func(pairs ...byte) step {
		return func(r *rig) api.Errno {
			r.commit(pairs...)
			return api.OK
		}
	}
	swaps := func(r *rig) api.Errno { // of the timeline and the number that it has
		w := r.world()
		return r.s.Swap(imageOf(r.t, []byte(w.disk)), w.timeline, w.number)
	}
	for n, on := range [][]step{
		{checkpointing}, {turning, checkpointing}, {commits(), checkpointing}, {commits(0, 99), checkpointing}, {swaps}, {swaps, checkpointing},
		{commits(0, 99, 1, 98), turning, checkpointing}, {checkpointing, commits(2, 97), commits(3, 96)}, {turning, commits(), commits(2, 95)}, {commits(), commits(), turning, swaps, checkpointing},
	} {
		eachCrash(t, func(what string, r *rig, done int) {
			what = fmt.Sprintf("%s, then %d", what, n)
			r.open()
			r.wantOne(what, l, done)
			r.keep(mostSegment)
			for _, do := range on {
				if e := do(r); e != api.OK && e != api.ErrTurn && e != api.ErrLog {
					t.Fatalf("%s: %v", what, e)
				}
			}
			w := r.world()
			r.d.Crash(nil)
			r.wantWorld(what, w)
			r.wantWorld(what+", opened twice", w)
		})
	}
}

// TestLostSwitch: a commit that turned is lost by its switch alone, and doesn't come back where the log turns anew, and is checkpointed there.
func TestLostSwitch(t *testing.T) {
	r := formatted(t, small)
	r.commit(0, 1)
	r.commit(0, 2)
	r.d.Limit(3)
	_, e := r.s.Commit(r.begun(0, 3))
	want(t, "Commit", e, api.ErrOff)
	want(t, "what waits", r.d.Waiting(), 5)
	r.d.Crash([]bool{false, true, true, true, true})
	r.wantWorld("without the switch", world{1, 2, string(disk(2, 0, 0, 0))})
	r.turn()
	r.checkpoint()
	r.wantWorld("turned and checkpointed", world{1, 2, string(disk(2, 0, 0, 0))})
	want(t, "End", r.s.Status().End, 17)
	want(t, "the next commit", r.commit(0, 4), 3)
	r.wantWorld("committed", world{1, 3, string(disk(4, 0, 0, 0))})
}

// TestCrashInSwap: it is the elder disk, with what was committed on it, or the new one, whichever sectors are left.
func TestCrashInSwap(t *testing.T) {
	elder, later := world{1, 3, string(disk(99, 98, 0, 97))}, world{1, 3, string(disk(11, 12, 13, 14))}
	for limit := range 5 {
		for left := range 1 << 5 {
			r := formatted(t, small)
			r.commit(0, 99)
			r.checkpoint()
			r.commit(1, 98)
			r.commit(3, 97)
			r.d.Limit(limit)
			want(t, "Swap", r.s.Swap(imageOf(t, []byte(later.disk)), 1, 3), api.ErrOff)
			control := r.d.Waiting() == 1 && limit == 4 && left&1 == 1
			r.d.Crash(keepOf(left, 5))
			wanted := elder
			if control {
				wanted = later
			}
			what := fmt.Sprintf("limit %d, left %b", limit, left)
			r.wantWorld(what, wanted)
			want(t, what+": a commit behind it", r.commit(2, 96), 4)
			wanted.number, wanted.disk = 4, wanted.disk[:128]+string(block(96))+wanted.disk[192:]
			r.wantWorld(what+": a commit behind it", wanted)
		}
	}
}
