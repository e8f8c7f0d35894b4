package primary_test

import (
	"bytes"
	"fmt"
	"slices"
	"testing"

	"breviary/api"
	"breviary/control"
	"breviary/dev"
	"breviary/primary"
)

// P14.1: Need

func TestNeed(t *testing.T) {
	want(t, "the chapter's example", primary.Need(api.Shape{Blocks: 4, Segments: 3, Size: 8}), 34)
	for blocks := -1; blocks <= 66; blocks++ {
		for segments := 1; segments <= 66; segments++ {
			for size := 2; size <= 66; size++ {
				s := api.Shape{Blocks: blocks, Segments: segments, Size: size}
				wanted := 0
				if blocks >= 1 && blocks <= 64 && segments >= 3 && segments <= 64 && size >= 4 && size <= 64 {
					wanted = 2 + 2*blocks + segments*size
				}
				if got := primary.Need(s); got != wanted {
					t.Fatalf("Need(%v): %d, wanted %d", s, got, wanted)
				}
			}
		}
	}
}

// wrong shapes: each is so by one of its numbers, or by more of them.
func wrong() []api.Shape {
	l := []api.Shape{{}}
	for _, n := range append(ends(), 0, 65, 66, 128, 256) {
		l = append(l, api.Shape{Blocks: n, Segments: 3, Size: 8}, api.Shape{Blocks: 4, Segments: n, Size: 8}, api.Shape{Blocks: 4, Segments: 3, Size: n}, api.Shape{Blocks: n, Segments: n, Size: n})
	}
	for n := range 3 {
		l = append(l, api.Shape{Blocks: 4, Segments: n, Size: 8}, api.Shape{Blocks: 4, Segments: 3, Size: n})
	}
	return append(l, api.Shape{Blocks: 4, Segments: 3, Size: 3})
}

func TestNeedOfWrongShapes(t *testing.T) {
	for _, s := range wrong() {
		want(t, fmt.Sprint(s), primary.Need(s), 0)
	}
}

// P14.1: Format

// makers are the two that make a store.
func makers() map[string]func(*dev.Dev, api.Shape) (*primary.Store, api.Errno) {
	return map[string]func(*dev.Dev, api.Shape) (*primary.Store, api.Errno){"Format": primary.Format, "Open": primary.Open}
}

func wantNoStore(t *testing.T, what string, d *dev.Dev, s api.Shape, wanted api.Errno) {
	t.Helper()
	for name, maker := range makers() {
		wantNone(t, what+": "+name, maker, d, s, wanted)
	}
}

// wantNone: an error, no store beside it, and nothing is done on the device.
func wantNone(t *testing.T, what string, maker func(*dev.Dev, api.Shape) (*primary.Store, api.Errno), d *dev.Dev, s api.Shape, wanted api.Errno) {
	t.Helper()
	calls, was := d.Calls(), d.Image()
	got, e := maker(d, s)
	if got != nil || e != wanted {
		t.Errorf("%s of %v: %v, %v, wanted %v", what, s, got, e, wanted)
	}
	wantSame(t, what, d, calls, was)
}

func TestNoStoreOnNoDevice(t *testing.T) {
	for _, s := range append(wrong(), small) {
		wantNoStore(t, "no device", nil, s, api.ErrNil)
	}
}

func TestNoStoreOfAWrongShape(t *testing.T) {
	r := formatted(t, small)
	tiny, off := device(t, 1), device(t, 100)
	turnOff(t, off)
	for _, s := range wrong() {
		wantNoStore(t, "a wrong shape", r.d, s, api.ErrArg)
		wantNoStore(t, "a wrong shape, a device of one sector", tiny, s, api.ErrArg)
		wantNoStore(t, "a wrong shape, off", off, s, api.ErrArg)
	}
}

func TestNoStoreOnADeviceThatIsOff(t *testing.T) {
	for _, sectors := range []int{1, 33, 34, 100} {
		d := device(t, sectors)
		turnOff(t, d)
		wantNoStore(t, "off", d, small, api.ErrOff)
		want(t, "off still", d.Off(), true)
	}
	r := formatted(t, small)
	turnOff(t, r.d)
	wantNoStore(t, "off, with a store", r.d, small, api.ErrOff)
}

// shapes that are right, at their edges, that go onto a device.
func shapes() []api.Shape {
	return []api.Shape{
		{Blocks: 1, Segments: 3, Size: 4}, small, {Blocks: 64, Segments: 3, Size: 4}, {Blocks: 1, Segments: 64, Size: 4},
		{Blocks: 1, Segments: 3, Size: 64}, {Blocks: 64, Segments: 61, Size: 64}, {Blocks: 64, Segments: 64, Size: 61}, {Blocks: 7, Segments: 5, Size: 11},
	}
}

func TestNoStoreOnADeviceThatIsTooSmall(t *testing.T) {
	for _, s := range shapes() {
		for _, sectors := range []int{1, 2, needOf(s) / 2, needOf(s) - 1} {
			wantNoStore(t, "too small", filled(t, sectors), s, api.ErrRange)
		}
	}
	greatest := api.Shape{Blocks: 64, Segments: 64, Size: 64}
	want(t, "the greatest shape's need", primary.Need(greatest), 4226)
	wantNoStore(t, "no device is great enough", device(t, 4096), greatest, api.ErrRange)
	r := formatted(t, small)
	wantNoStore(t, "a greater shape", r.d, api.Shape{Blocks: 5, Segments: 3, Size: 8}, api.ErrRange)
}

// formattedImage is what a device has behind a Format: what it had, with the control, the noughts and the head.
func formattedImage(was []byte, s api.Shape, c api.Control) []byte {
	b := bytes.Clone(was)
	copy(b[64*(c.Gen%2):], control.Put(c))
	copy(b[2*64:], make([]byte, 64*s.Blocks))
	copy(b[64*sectorAt(s, s.Size):], framesOf(s.Size, c.Epoch, head(1, 1)))
	return b
}

func TestFormatOfEachShape(t *testing.T) {
	for _, s := range shapes() {
		for _, sectors := range []int{needOf(s), needOf(s) + 1, 4096} {
			r := &rig{t: t, shape: s, d: filled(t, sectors)}
			was, calls := r.d.Image(), r.d.Calls()
			r.format()
			c := api.Control{Gen: 1, Epoch: 1, Timeline: 1, Redo: s.Size, Low: 1}
			want(t, "the control", counts(t, r.d), c)
			wantBytes(t, "the device", r.d.Image(), formattedImage(was, s, c))
			want(t, "what waits", r.d.Waiting(), 0)
			want(t, "calls", r.d.Calls()-calls, 5)
			r.wantStatus("formatted", api.Status{Timeline: 1, Epoch: 1, End: s.Size + 1, Redo: s.Size, Keep: 1})
			r.wantDisk("formatted", make([]byte, 64*s.Blocks))
			wantList(t, "Closed", r.s.Closed())
			wantList(t, "Since(0)", r.s.Since(0))
			want(t, "Since(-1)", len(r.s.Since(-1)), s.Blocks)
			want(t, "Turn", r.s.Turn(), api.ErrTurn)
			want(t, "the first handle", r.begin(), 1)
			want(t, "the first commit", r.commit(), 1)
		}
	}
}

// TestFormatInItsOrder: the noughts, the head, a flush, the control, a flush; the device goes off behind each of them.
func TestFormatInItsOrder(t *testing.T) {
	was := odd(64 * 35)
	c := api.Control{Gen: 1, Epoch: 1, Timeline: 1, Redo: 8, Low: 1}
	all := formattedImage(was, small, c)
	noughts, flushed := bytes.Clone(was), bytes.Clone(all)
	copy(noughts[2*64:], make([]byte, 4*64))
	copy(flushed, was[:2*64])
	for limit, step := range []struct {
		stays, kept []byte // what stays, and what does, if all that waits is left by a crash
		waits       int
	}{{was, was, 0}, {was, noughts, 4}, {was, flushed, 5}, {flushed, flushed, 0}, {flushed, all, 1}} {
		for _, left := range []bool{false, true} {
			d := filled(t, 35)
			d.Limit(limit)
			s, e := primary.Format(d, small)
			if s != nil || e != api.ErrOff || !d.Off() {
				t.Errorf("limit %d: %v, %v", limit, s, e)
			}
			want(t, "what waits", d.Waiting(), step.waits)
			wantBytes(t, fmt.Sprint("what stays, limit ", limit), d.Image(), step.stays)
			d.Crash(slices.Repeat([]bool{left}, 9))
			wanted := step.stays
			if left {
				wanted = step.kept
			}
			wantBytes(t, fmt.Sprint("behind the crash, limit ", limit), d.Image(), wanted)
		}
	}
}

// TestFormatWhereAControlIs: the epoch is one more, and Gen goes on, whatever else that control says.
func TestFormatWhereAControlIs(t *testing.T) {
	for _, epoch := range []int{0, 1, 7, 1 << 31, mostEpoch - 1} {
		for _, gen := range []int{1, 2, 3, 8, 1 << 40, mostGen - 2, mostGen - 1} {
			d := filled(t, 40)
			layControl(t, d, api.Control{Gen: gen, Epoch: epoch, Area: 1, Timeline: 9, Number: 50, Redo: 77, Low: 6})
			was := d.Image()
			r := &rig{t: t, shape: small, d: d}
			r.format()
			c := api.Control{Gen: gen + 1, Epoch: epoch + 1, Timeline: 1, Redo: 8, Low: 1}
			want(t, "the control", counts(t, d), c)
			wantBytes(t, "the device", d.Image(), formattedImage(was, small, c))
			r.wantStatus("formatted", api.Status{Timeline: 1, Epoch: epoch + 1, End: 9, Redo: 8, Keep: 1})
			want(t, "a commit", r.commit(0, 1), 1)
			wantStands(t, "a commit", d, small, 9, epoch+1, commit(1, 1, 0, 1))
		}
	}
}

func TestFormatOfASpentControl(t *testing.T) {
	for _, c := range []api.Control{
		{Gen: 1, Epoch: mostEpoch, Timeline: 1}, {Gen: 8, Epoch: mostEpoch, Area: 1, Timeline: 3, Number: 4, Redo: 9, Low: 1},
		{Gen: mostGen, Epoch: 1, Timeline: 1}, {Gen: mostGen, Epoch: mostEpoch, Timeline: 1},
	} {
		d := filled(t, 40)
		layControl(t, d, c)
		wantNoStore(t, "spent", d, small, api.ErrSpent)
		turnOff(t, d)
		wantNoStore(t, "spent, off", d, small, api.ErrOff)
	}
}

// TestFormatBesideASpoiltControl: the elder one is the control that is there; without one the epoch is 1.
func TestFormatBesideASpoiltControl(t *testing.T) {
	for turned, wanted := range map[int]api.Control{
		1: {Gen: 5, Epoch: 8, Timeline: 1, Redo: 8, Low: 1},
		0: {Gen: 6, Epoch: 31, Timeline: 1, Redo: 8, Low: 1},
	} {
		d := device(t, 40)
		layControl(t, d, api.Control{Gen: 4, Epoch: 7, Timeline: 2})
		layControl(t, d, api.Control{Gen: 5, Epoch: 30, Timeline: 2})
		want(t, "spoilt", d.Turn(turned, 100), api.OK)
		r := &rig{t: t, shape: small, d: d}
		r.format()
		want(t, "the control", counts(t, d), wanted)
	}
	d := device(t, 40)
	layControl(t, d, api.Control{Gen: 4, Epoch: mostEpoch, Timeline: 2})
	layControl(t, d, api.Control{Gen: 5, Epoch: mostEpoch, Timeline: 2})
	for slot := range 2 {
		want(t, "spoilt", d.Turn(slot, 100), api.OK)
	}
	r := &rig{t: t, shape: small, d: d}
	r.format()
	want(t, "without a control", counts(t, d), api.Control{Gen: 1, Epoch: 1, Timeline: 1, Redo: 8, Low: 1})
}

// TestFormatAnew: of an elder store nothing is seen any more, opened at each place where its commits stand in the log.
func TestFormatAnew(t *testing.T) {
	for _, area := range []int{0, 1} {
		for n := range 5 {
			r := formatted(t, small)
			if area == 1 {
				r.swap(disk(1, 2, 3, 4), 1, 0)
				r.swap(disk(1, 2, 3, 4), 1, 0)
				r.swap(disk(1, 2, 3, 4), 1, 0)
			}
			for k := range 5 {
				r.commit(byte(k%4), byte(100+k))
			}
			r.d.Crash(nil)
			r.format()
			epoch := r.s.Status().Epoch
			r.wantDisk("formatted anew", make([]byte, 4*64))
			wanted := make([]byte, 4*64)
			for k := range n {
				want(t, "a commit", r.commit(3, byte(k+1)), k+1)
				copy(wanted[3*64:], block(byte(k+1)))
			}
			r.checkpoint()
			r.open()
			r.wantDisk("opened", wanted)
			want(t, "the number", r.s.Status().Number, n)
			want(t, "the epoch", r.s.Status().Epoch, epoch+1)
		}
	}
}
