package primary_test

import (
	"bytes"
	"fmt"
	"slices"
	"testing"

	"breviary/api"
	"breviary/control"
	"breviary/dev"
	"breviary/primary"
)

// P14.2: Open, errors

func TestOpenWithoutAControl(t *testing.T) {
	wantNone(t, "noughts", primary.Open, device(t, 40), small, api.ErrForm)
	wantNone(t, "no sectors of a store", primary.Open, filled(t, 40), small, api.ErrForm)
	d := device(t, 40)
	lay(t, d, 0, control.Put(api.Control{Gen: 1, Timeline: 1}))
	wantNone(t, "a control in the other slot", primary.Open, d, small, api.ErrForm)
	r := formatted(t, small)
	want(t, "spoilt", r.d.Turn(1, 3), api.OK)
	wantNone(t, "a spoilt control", primary.Open, r.d, small, api.ErrForm)
	turnOff(t, r.d)
	wantNone(t, "a spoilt control, off", primary.Open, r.d, small, api.ErrOff)
}

func TestOpenOfASpentControl(t *testing.T) {
	for _, c := range []api.Control{
		{Gen: 1, Epoch: mostEpoch, Timeline: 1, Redo: 9}, {Gen: 2, Epoch: mostEpoch, Timeline: 1, Redo: 8},
		{Gen: mostGen, Epoch: 1, Timeline: 1, Redo: 9}, {Gen: mostGen, Epoch: mostEpoch, Timeline: 1, Redo: 8},
	} {
		d := filled(t, 40)
		layControl(t, d, c)
		wantNone(t, "spent", primary.Open, d, small, api.ErrSpent)
	}
	c := api.Control{Gen: mostGen, Epoch: 1, Timeline: 1, Redo: 8 * (mostSegment + 1)}
	wantNone(t, "spent, of no such segment", primary.Open, craft(t, small, c), small, api.ErrSpent)
	c.Redo = 8
	wantNone(t, "spent, of no such block", primary.Open, craft(t, small, c, laid{1, head(1, 1)}, laid{1, commit(1, 1, 4, 9)}), small, api.ErrSpent)
	for _, c := range []api.Control{{Gen: 1, Epoch: mostEpoch - 1, Timeline: 1, Redo: 9}, {Gen: mostGen - 1, Epoch: 1, Timeline: 1, Redo: 9}} {
		r := &rig{t: t, shape: small, d: filled(t, 40)}
		layControl(t, r.d, c)
		r.open()
		want(t, "the last one", r.s.Status().Epoch, c.Epoch+1)
		wantNone(t, "none behind the last one", primary.Open, r.d, small, api.ErrSpent)
	}
}

// TestOpenOfWhatIsNoStores: the log would begin above the greatest segment, or has a block that the store hasn't.
func TestOpenOfWhatIsNoStores(t *testing.T) {
	d := filled(t, 40)
	layControl(t, d, api.Control{Gen: 1, Epoch: 1, Timeline: 1, Redo: 8 * (mostSegment + 1)})
	wantNone(t, "no such segment", primary.Open, d, small, api.ErrArg)
	d = craft(t, small, api.Control{Gen: 1, Epoch: 1, Timeline: 1, Redo: 8}, laid{1, head(1, 1)}, laid{1, commit(1, 1, 4, 9)})
	wantNone(t, "no such block", primary.Open, d, small, api.ErrBlock)
}

func TestOpenThatGoesOff(t *testing.T) {
	for _, left := range []bool{false, true} {
		for limit := range 4 {
			d := craft(t, small, api.Control{Gen: 4, Epoch: 6, Timeline: 1, Redo: 8})
			was := d.Image()
			renewed := api.Control{Gen: 5, Epoch: 7, Timeline: 1, Redo: 8}
			d.Limit(limit)
			s, e := primary.Open(d, small)
			if s != nil || e != api.ErrOff || !d.Off() {
				t.Errorf("limit %d: %v, %v", limit, s, e)
			}
			want(t, "what waits", d.Waiting(), []int{0, 1, 0, 1}[limit])
			if left && limit > 0 || limit > 1 {
				copy(was[64:], control.Put(renewed))
			}
			if left && limit == 3 {
				copy(was[64*sectorAt(small, 8):], framesOf(8, 7, head(1, 1)))
			}
			d.Crash([]bool{left})
			wantBytes(t, fmt.Sprint("behind the crash, limit ", limit), d.Image(), was)
		}
	}
}

// P14.2: Open, the control

func TestOpenRenewsTheControl(t *testing.T) {
	r := formatted(t, small)
	r.commit(2, 9)
	r.checkpoint()
	r.commit(1, 8)
	r.keep(0)
	for n := 1; n < 6; n++ {
		was, calls, image := counts(t, r.d), r.d.Calls(), r.d.Image()
		r.open()
		was.Gen++
		was.Epoch++
		copy(image[64*(was.Gen%2):], control.Put(was))
		wantBytes(t, "the device", r.d.Image(), image)
		want(t, "what waits", r.d.Waiting(), 0)
		want(t, "calls", r.d.Calls()-calls, 2)
		r.wantStatus("opened", api.Status{Timeline: 1, Number: 2, Epoch: 1 + n, End: 15, Redo: 12, Keep: 1})
		r.wantDisk("opened", disk(0, 8, 9, 0))
	}
	want(t, "of the new epoch", r.commit(), 3)
	wantStands(t, "of the new epoch", r.d, small, 17, 6, commit(1, 3))
}

// P14.2: Open, the log

// laid record: with its epoch. A record that doesn't go where the one ahead ends stands there all the same.
type laid struct {
	epoch int
	r     api.Record
}

// craft a device that has a control, two areas, of 1 to n and of 101 to 100 + n, and a log from Redo on.
func craft(t *testing.T, s api.Shape, c api.Control, l ...laid) *dev.Dev {
	t.Helper()
	d := device(t, needOf(s)+1)
	for n := range s.Blocks {
		lay(t, d, 2+n, block(byte(1+n)))
		lay(t, d, 2+s.Blocks+n, block(byte(101+n)))
	}
	layControl(t, d, c)
	place := c.Redo
	for _, x := range l {
		place = layRecord(t, d, s, place, x.epoch, x.r)
		if x.r.Kind == 2 {
			place = (place-1)/s.Size*s.Size + s.Size
		}
	}
	return d
}

func TestOpenReplaysTheLog(t *testing.T) {
	s := api.Shape{Blocks: 4, Segments: 3, Size: 16}
	h := laid{5, head(3, 11)}
	c := func(timeline, number int, b byte) laid { return laid{5, commit(timeline, number, 0, b)} }
	of := func(epoch int, x laid) laid { return laid{epoch, x.r} }
	turn, next := laid{5, switched()}, laid{5, head(3, 99)}
	for _, x := range []struct {
		what   string
		log    []laid
		number int
		b      byte
		end    int
	}{
		{"a head alone", []laid{h}, 10, 101, 17},
		{"another timeline's head", []laid{{5, head(7, 0)}, c(3, 11, 21)}, 11, 21, 20},
		{"one commit", []laid{h, c(3, 11, 21)}, 11, 21, 20},
		{"two", []laid{h, c(3, 11, 21), c(3, 12, 22)}, 12, 22, 23},
		{"of another timeline", []laid{h, c(2, 11, 21)}, 10, 101, 20},
		{"of other timelines between", []laid{h, c(2, 11, 21), c(3, 11, 22), c(4, 12, 23)}, 11, 22, 26},
		{"two above", []laid{h, c(3, 12, 21)}, 10, 101, 20},
		{"two above, then one", []laid{h, c(3, 12, 21), c(3, 11, 22)}, 11, 22, 23},
		{"two above, then one, then that again", []laid{h, c(3, 12, 21), c(3, 11, 22), c(3, 12, 23)}, 12, 23, 26},
		{"the control's own", []laid{h, c(3, 10, 21)}, 10, 101, 20},
		{"below, then one above", []laid{h, c(3, 1, 21), c(3, 10, 22), c(3, 11, 23)}, 11, 23, 26},
		{"one twice", []laid{h, c(3, 11, 21), c(3, 11, 22)}, 11, 21, 23},
		{"an empty one", []laid{h, {5, commit(3, 11)}, c(3, 12, 21)}, 12, 21, 21},
		{"of later epochs", []laid{h, of(6, c(3, 11, 21)), of(8, c(3, 12, 22))}, 12, 22, 23},
		{"of the control's epoch", []laid{h, of(9, c(3, 11, 21)), of(9, c(3, 12, 22))}, 12, 22, 23},
		{"of an epoch above the control's", []laid{h, of(9, c(3, 11, 21)), of(20, c(3, 12, 22))}, 11, 21, 20},
		{"all above", []laid{of(20, h), c(3, 11, 21)}, 10, 101, 17},
		{"of a falling epoch", []laid{h, of(6, c(3, 11, 21)), of(5, c(3, 12, 22))}, 11, 21, 20},
		{"through a switch", []laid{h, c(3, 11, 21), turn, next, c(3, 12, 22)}, 12, 22, 36},
		{"through two", []laid{h, c(3, 11, 21), turn, next, turn, next, c(3, 12, 22)}, 12, 22, 52},
		{"no head behind the switch", []laid{h, c(3, 11, 21), turn, c(3, 12, 22)}, 11, 21, 33},
		{"a head of a falling epoch", []laid{h, c(3, 11, 21), of(6, turn), next, c(3, 12, 22)}, 11, 21, 33},
		{"no head", []laid{c(3, 11, 21)}, 10, 101, 17},
	} {
		d := craft(t, s, api.Control{Gen: 8, Epoch: 9, Area: 1, Timeline: 3, Number: 10, Redo: 16, Low: 1}, x.log...)
		r := &rig{t: t, shape: s, d: d}
		for epoch := 10; epoch < 12; epoch++ { // opened twice it is as opened once
			r.open()
			r.wantStatus(x.what, api.Status{Timeline: 3, Number: x.number, Area: 1, Epoch: epoch, End: x.end, Redo: 16, Keep: 1})
			r.wantDisk(x.what, disk(x.b, 102, 103, 104))
			wantList(t, x.what+": Since its number", r.s.Since(x.number))
			wantList(t, x.what+": Since the one ahead", r.s.Since(x.number-1), 0, 1, 2, 3)
		}
	}
}

// TestOpenOfAnEarlierPlace: the log goes on at Redo, whatever is there, in each sector of a segment.
func TestOpenOfAnEarlierPlace(t *testing.T) {
	for redo := 8; redo < 40; redo++ {
		c := api.Control{Gen: 3, Epoch: 4, Timeline: 2, Number: 20, Redo: redo, Low: 1}
		r := &rig{t: t, shape: small, d: craft(t, small, c)}
		calls := r.d.Calls()
		r.open()
		if redo%8 == 0 {
			want(t, "End of a beginning", r.s.Status().End, redo+1)
			wantStands(t, "the head", r.d, small, redo, 5, head(2, 21))
			want(t, "calls", r.d.Calls()-calls, 4)
		} else {
			want(t, "End", r.s.Status().End, redo)
			want(t, "calls", r.d.Calls()-calls, 2)
		}
		want(t, "what waits", r.d.Waiting(), 0)
		want(t, "the number", r.s.Status().Number, 20)
		if redo%8 == 0 || redo%8 > 4 {
			continue
		}
		r = &rig{t: t, shape: small, d: craft(t, small, c, laid{1, commit(2, 21, 3, 77)})}
		r.open()
		want(t, "the number", r.s.Status().Number, 21)
		want(t, "End behind a commit", r.s.Status().End, redo+3)
		r.wantDisk("a commit at Redo", disk(1, 2, 3, 77))
	}
}

// TestOpenStartsASegment: the log ends with a switch, behind which a head was lost, or one of an elder epoch lies.
func TestOpenStartsASegment(t *testing.T) {
	for _, number := range []int{0, 1, 20, mostCommit - 2, mostCommit - 1, mostCommit} {
		for _, lost := range []bool{true, false} {
			c := api.Control{Gen: 3, Epoch: 4, Timeline: 2, Number: number, Redo: 8, Low: 0}
			log := []laid{{4, head(2, number)}, {4, switched()}}
			if !lost {
				log = append(log, laid{3, head(2, 5)}, laid{3, commit(2, min(number+1, mostCommit), 0, 99)})
			}
			r := &rig{t: t, shape: small, d: craft(t, small, c, log...)}
			was, calls := r.d.Image(), r.d.Calls()
			r.open()
			copy(was, control.Put(api.Control{Gen: 4, Epoch: 5, Timeline: 2, Number: number, Redo: 8, Low: 0}))
			copy(was[64*sectorAt(small, 16):], framesOf(16, 5, head(2, min(number+1, mostCommit))))
			wantBytes(t, "the device", r.d.Image(), was)
			want(t, "calls", r.d.Calls()-calls, 4)
			want(t, "what waits", r.d.Waiting(), 0)
			r.wantStatus("started", api.Status{Timeline: 2, Number: number, Epoch: 5, End: 17, Redo: 8, Keep: 0})
			wantList(t, "Closed", r.s.Closed(), 0, 1)
			r.open()
			r.wantStatus("opened again", api.Status{Timeline: 2, Number: number, Epoch: 6, End: 17, Redo: 8, Keep: 0})
		}
	}
}

// TestOpenStartsASegmentBehindCommits: its head tells the number that was replayed.
func TestOpenStartsASegmentBehindCommits(t *testing.T) {
	for _, number := range []int{0, 5, mostCommit - 3, mostCommit - 2} {
		c := api.Control{Gen: 3, Epoch: 4, Timeline: 2, Number: number, Redo: 8, Low: 0}
		r := &rig{t: t, shape: small, d: craft(t, small, c, laid{4, head(2, number+1)}, laid{4, commit(2, number+1)}, laid{4, commit(2, number+2)}, laid{4, switched()})}
		r.open()
		r.wantStatus("started", api.Status{Timeline: 2, Number: number + 2, Epoch: 5, End: 17, Redo: 8, Keep: 0})
		wantStands(t, "its head", r.d, small, 16, 5, head(2, min(number+3, mostCommit)))
	}
}

func TestOpenOfTheGreatestNumbers(t *testing.T) {
	s := api.Shape{Blocks: 4, Segments: 3, Size: 5}
	for _, c := range []api.Control{
		{Gen: 1, Epoch: mostEpoch - 1, Timeline: mostTimeline, Number: mostCommit, Redo: 1 << 61, Low: 1 << 61},
		{Gen: mostGen - 1, Area: 1, Timeline: 1, Redo: 5 * mostSegment, Low: 0},
		{Gen: 2, Timeline: 1, Number: mostCommit - 1, Redo: 5*mostSegment + 7, Low: mostSegment + 1},
	} {
		r := &rig{t: t, shape: s, d: craft(t, s, c)}
		r.open()
		end := c.Redo
		if end%5 == 0 {
			end++
		}
		r.wantStatus("greatest numbers", api.Status{Timeline: c.Timeline, Number: c.Number, Area: c.Area, Epoch: c.Epoch + 1, End: end, Redo: c.Redo, Keep: c.Low})
		for _, n := range []int{c.Number, mostCommit} {
			wantList(t, "Since", r.s.Since(n))
		}
		wantList(t, "Since the one ahead", r.s.Since(c.Number-1), 0, 1, 2, 3)
		for n := 1; n < 3; n++ {
			r.begun(0, 1)
		}
		want(t, "open ones", r.s.Status().Open, 2)
	}
}

// TestOpenKeepsFromLowOn: what was kept at the last checkpoint, not what Keep told behind it.
func TestOpenKeepsFromLowOn(t *testing.T) {
	r := formatted(t, small)
	for range 6 {
		r.commit(0, 1)
	}
	r.keep(2)
	r.checkpoint()
	r.keep(3)
	r.open()
	want(t, "Keep", r.s.Status().Keep, 2)
	wantList(t, "Closed", r.s.Closed(), 2)
	r.commit(0, 1)
	want(t, "End: the segment 1 is written over", r.s.Status().End, 36)
	r.commit(0, 1)
	r.refused("segments from 2 on are kept", api.ErrLog, 0, 1)
}

// TestOpenHasANewBook: no transaction is open, and handles begin at 1.
func TestOpenHasANewBook(t *testing.T) {
	r := formatted(t, small)
	for h := 1; h <= 8; h++ {
		want(t, "Begin", r.begun(0, byte(h)), h)
	}
	r.open()
	want(t, "open ones", r.s.Status().Open, 0)
	for h := 1; h <= 8; h++ {
		want(t, "a handle that was open", r.s.Write(h, 0, block(1)), api.ErrHandle)
	}
	want(t, "Begin", r.begin(), 1)
	r.wantDisk("nothing was committed", disk(0, 0, 0, 0))
}

// TestOpenTellsElderEpochsApart: what an elder epoch left where Redo is isn't the log's.
func TestOpenTellsElderEpochsApart(t *testing.T) {
	for _, x := range []struct{ ahead, behind, number int }{{3, 2, 20}, {3, 3, 21}, {3, 4, 21}, {4, 3, 20}, {0, 0, 21}, {1, 0, 20}, {9, 9, 21}, {9, 10, 20}, {3, 10, 20}} {
		c := api.Control{Gen: 3, Epoch: 9, Timeline: 2, Number: 20, Redo: 8, Low: 1}
		d := craft(t, small, c, laid{0, head(2, 20)}, laid{x.ahead, commit(2, 20, 0, 66)}, laid{x.behind, commit(2, 21, 3, 77)})
		c.Gen, c.Redo = 4, 12
		layControl(t, d, c)
		r := &rig{t: t, shape: small, d: d}
		r.open()
		want(t, "the number", r.s.Status().Number, x.number)
		want(t, "End", r.s.Status().End, 12+3*(x.number-20))
	}
}

// TestOpenOfAnEpochAboveTheControls: such an entry isn't the log's, at a beginning neither.
func TestOpenOfAnEpochAboveTheControls(t *testing.T) {
	for epoch, wanted := range map[int]int{8: 21, 9: 21, 10: 20, 11: 20} {
		c := api.Control{Gen: 3, Epoch: 9, Timeline: 2, Number: 20, Redo: 8, Low: 1}
		r := &rig{t: t, shape: small, d: craft(t, small, c, laid{8, head(2, 21)}, laid{epoch, commit(2, 21, 3, 77)})}
		r.open()
		want(t, "the number", r.s.Status().Number, wanted)
		want(t, "End", r.s.Status().End, 9+3*(wanted-20))
	}
}

// TestOpenFromRedoOn: what stands ahead of it isn't replayed, whatever its number is.
func TestOpenFromRedoOn(t *testing.T) {
	c := api.Control{Gen: 3, Epoch: 9, Timeline: 2, Number: 20, Redo: 8, Low: 1}
	d := craft(t, small, c, laid{5, head(2, 20)}, laid{5, commit(2, 21, 0, 66)}, laid{5, commit(2, 21, 3, 77)})
	c.Gen, c.Redo = 4, 12
	layControl(t, d, c)
	r := &rig{t: t, shape: small, d: d}
	r.open()
	want(t, "the number", r.s.Status().Number, 21)
	r.wantDisk("the one at Redo", disk(1, 2, 3, 77))
}

// TestOpenWithSpoiltSectors: one ahead of Redo takes nothing, one behind it what is from there on.
func TestOpenWithSpoiltSectors(t *testing.T) {
	s := api.Shape{Blocks: 4, Segments: 3, Size: 32}
	for place := 32; place < 64; place++ {
		r := formatted(t, s)
		for n := 1; n <= 3; n++ {
			r.commit(byte(n), byte(n))
		}
		r.checkpoint() // Redo is 42
		for n := 4; n <= 6; n++ {
			r.commit(0, byte(n))
		}
		want(t, "spoilt", r.d.Turn(sectorAt(s, place), 40), api.OK)
		r.open()
		wanted := 6
		if place >= 42 && place < 51 {
			wanted = 3 + (place-42)/3
		}
		want(t, fmt.Sprint("the number, spoilt at ", place), r.s.Status().Number, wanted)
		want(t, fmt.Sprint("End, spoilt at ", place), r.s.Status().End, 33+3*wanted)
		b := byte(wanted)
		if wanted == 3 {
			b = 0
		}
		r.wantDisk(fmt.Sprint("spoilt at ", place), disk(b, 1, 2, 3))
	}
}

// TestOpenOfEachShape: commits of which some are behind the last checkpoint are there again.
func TestOpenOfEachShape(t *testing.T) {
	for _, s := range shapes() {
		r := formatted(t, s)
		wanted := make([]byte, 64*s.Blocks)
		fits := s.Size >= 5
		for n := 1; n <= 4; n++ {
			if fits {
				b := byte(n * 50 % s.Blocks)
				want(t, "Commit", r.commit(b, byte(n)), n)
				copy(wanted[64*int(b):], block(byte(n)))
			} else {
				want(t, "Commit", r.commit(), n)
			}
			if n == 2 {
				r.checkpoint()
				r.keep(s.Segments)
			}
		}
		end := r.s.Status().End
		r.open()
		want(t, "the number", r.s.Status().Number, 4)
		want(t, "End", r.s.Status().End, end)
		r.wantDisk("opened", wanted)
		if other, e := primary.Open(r.d, s); e != api.OK || !bytes.Equal(imageBytes(other), wanted) {
			t.Errorf("opened twice: %v", e)
		}
	}
}

func imageBytes(s *primary.Store) []byte {
	x, _ := s.Image()
	return slices.Clone(x.Bytes())
}
