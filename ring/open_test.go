package ring_test

import (
	"fmt"
	"math"
	"math/rand"
	"slices"
	"testing"

	"breviary/api"
	"breviary/ring"
)

// P8.4

func TestOpenOfWrongArguments(t *testing.T) {
	g, _ := filled(t, 3)
	for _, c := range [][2]int{
		{-1, 1}, {math.MinInt, 1}, {mostLsn + 1, 1}, {math.MaxInt, 1}, {1 << 62, 1},
		{32, -1}, {32, math.MinInt}, {32, mostEpoch + 1}, {32, math.MaxInt}, {-1, -1},
	} {
		g.wantSame(fmt.Sprint(c), func() {
			l, e := g.l.Open(c[0], c[1])
			want(t, fmt.Sprintf("Open of %v", c), e, api.ErrArg)
			want(t, fmt.Sprintf("Open of %v", c), len(l), 0)
		})
	}
	g.d.Flush()
	g.d.Limit(0)
	g.d.Flush()
	for _, lsn := range []int{0, 32, mostLsn} {
		l, e := g.l.Open(lsn, 1)
		want(t, "Open, off", e, api.ErrOff)
		want(t, "Open, off", len(l), 0)
		want(t, "End", g.l.End(), 35)
	}
}

func TestOpenOverNoEntries(t *testing.T) {
	g := logOf(t, 3, 8)
	for _, lsn := range []int{0, 1, 7, 8, 9, 24, 1 << 40, mostLsn - 1, mostLsn} {
		for _, epoch := range []int{0, 1, mostEpoch} {
			g.wantOpen(fmt.Sprintf("noughts at %d", lsn), lsn, epoch, lsn, nil)
		}
	}
	want(t, "Start", g.l.Start(4, 5, 1, 1), api.OK)
	g.wantOpen("the epochs below its", 32, 4, 32, nil)
	g.wantOpen("behind it", 33, 5, 33, nil)
	g.wantOpen("the segment ahead in its part", 8, 5, 8, nil)
	g.wantOpen("it", 32, 5, 33, []api.Entry{at(32, 5, head(1, 1))})
}

// chain is three segments of 8 sectors, the first two of which are closed, from the segment 5 on.
func chain() []api.Entry {
	return slices.Concat(
		inRow(40, 1, head(1, 1), commit(1, 1), commit(2, 0), switched()),
		inRow(48, 1, head(1, 3), commit(3, 3), switched()),
		inRow(56, 1, head(1, 4), commit(4, 0), commit(5, 1)))
}

func TestOpenFromEachPlace(t *testing.T) {
	g := logOf(t, 3, 8)
	l := chain()
	g.lay(l...)
	for lsn := range 100 {
		end, wanted := lsn, []api.Entry(nil)
		for i, x := range l {
			if x.Lsn == lsn {
				end, wanted = 61, l[i:]
			}
		}
		g.wantOpen(fmt.Sprintf("from %d", lsn), lsn, 1, end, wanted)
	}
}

func TestOpenedLogGoesOn(t *testing.T) {
	g := logOf(t, 3, 8)
	l := chain()
	g.lay(l...)
	g.wantOpen("three segments", 40, 1, 61, l)
	g.wantAdd("behind them", commit(6, 0), 2, 5, 61)
	g.wantAdd("behind them", commit(7, 0), 2, 5, 62)
	g.wantNoAdd("full", commit(8, 0), 2, 5, api.ErrLog)
	g.wantAdd("in the next segment", commit(8, 0), 2, 6, 65)
	wanted := slices.Concat(l[4:], inRow(61, 2, commit(6, 0), commit(7, 0), switched()), inRow(64, 2, head(1, 8), commit(8, 0)))
	g.wantOpen("the epoch 2", 48, 2, 66, wanted)
	g.wantOpen("the epoch 1", 48, 1, 61, l[4:])
}

// Each entry is turned to an epoch above or below the others: what is told ends ahead of it, or behind the first of another.
func TestOpenBetweenEpochs(t *testing.T) {
	l := chain()
	for i := range l {
		g := logOf(t, 3, 8)
		changed := slices.Clone(l)
		for k := range changed {
			changed[k].Epoch = 5
			if k >= i {
				changed[k].Epoch = 7
			}
		}
		g.lay(changed...)
		for _, epoch := range []int{7, 8, mostEpoch} {
			g.wantOpen(fmt.Sprintf("up to %d, from the %d-th on 7", epoch, i), 40, epoch, 61, changed)
		}
		for _, epoch := range []int{5, 6} {
			g.wantOpen(fmt.Sprintf("up to %d, from the %d-th on 7", epoch, i), 40, epoch, endOf(40, 8, changed[:i]), changed[:i])
		}
		g.wantOpen("up to 4", 40, 4, 40, nil)
		if i == 0 {
			continue
		}
		for k := i; k < len(l); k++ {
			changed[k].Epoch = 4
		}
		g.lay(changed...)
		g.wantOpen(fmt.Sprintf("from the %d-th on 4", i), 40, 7, endOf(40, 8, changed[:i]), changed[:i])
		g.wantOpen(fmt.Sprintf("of 4, from the %d-th on", i), changed[i].Lsn, 7, 61, changed[i:])
	}
}

// endOf entries from a place on.
func endOf(lsn, size int, l []api.Entry) int {
	if len(l) == 0 {
		return lsn
	}
	last := l[len(l)-1]
	if last.R.Kind == 2 {
		return (last.Lsn/size + 1) * size
	}
	return last.Lsn + last.Sectors
}

// A segment behind a switch that has no head, or another's, isn't told; nor one that isn't closed gone through.
func TestOpenWhereTheNextSegmentIsNone(t *testing.T) {
	l := inRow(8, 2, head(1, 1), commit(1, 0), switched())
	for what, next := range map[string][]api.Entry{
		"nothing":                     nil,
		"a commit at its beginning":   {at(16, 2, commit(2, 0)), at(17, 2, commit(3, 0))},
		"commits without a head":      {at(17, 2, commit(2, 0))},
		"an elder head":               {at(16, 1, head(1, 2)), at(17, 2, commit(2, 0))},
		"a younger head":              {at(16, 4, head(1, 2)), at(17, 4, commit(2, 0))},
		"the segment of a ring ahead": {at(40, 2, head(1, 2)), at(41, 2, commit(2, 0))},
		"a switch at its beginning":   {at(16, 2, switched()), at(24, 2, head(1, 2))},
	} {
		g := logOf(t, 3, 8)
		g.lay(l...)
		g.lay(next...)
		g.wantOpen(what, 8, 3, 16, l)
	}
	g := logOf(t, 3, 8)
	g.lay(l[:2]...)
	g.lay(at(16, 2, head(1, 2)))
	g.wantOpen("without a switch", 8, 3, 10, l[:2])
	g.lay(l[2], at(16, 3, head(9, 9)))
	g.wantOpen("a head of the greatest epoch, another timeline and number", 8, 3, 17, append(slices.Clone(l), at(16, 3, head(9, 9))))
}

func TestOpenThroughAllSegments(t *testing.T) {
	for _, segments := range []int{3, 4, 64} {
		for first := range 5 {
			g := logOf(t, segments, 4)
			var l []api.Entry
			for n := first; n < first+segments; n++ {
				l = append(l, inRow(4*n, 1, head(1, n+1), commit(n+1, 0), switched())...)
			}
			g.lay(l...)
			g.wantOpen(fmt.Sprintf("%d segments, all closed", segments), 4*first, 1, 4*(first+segments), l)
			g.lay(at(l[len(l)-1].Lsn, 1, commit(999, 0)))
			open := append(slices.Clone(l[:len(l)-1]), at(l[len(l)-1].Lsn, 1, commit(999, 0)))
			g.wantOpen(fmt.Sprintf("%d segments, the last one open", segments), 4*first, 1, 4*(first+segments)-1, open)
		}
	}
}

// The part of the first segment has the head of one that is as many above as the ring has, ahead of the first one's switch: it isn't looked at.
func TestOpenLooksAtNoMoreSegmentsThanTheRingHas(t *testing.T) {
	g := logOf(t, 3, 8)
	l := append([]api.Entry{at(5, 1, commit(1, 0)), at(6, 1, switched())},
		append(inRow(8, 1, head(1, 2), switched()), inRow(16, 1, head(1, 2), switched())...)...)
	behind := inRow(24, 1, head(1, 2), commit(2, 0))
	g.lay(l...)
	g.lay(behind...)
	g.wantOpen("from the segment 0 on", 5, 1, 24, l)
	g.wantOpen("from its switch on", 6, 1, 24, l[1:])
	g.wantOpen("from the segment 1 on", 8, 1, 26, append(slices.Clone(l[2:]), behind...))
}

func TestOpenAtTheGreatestPlaces(t *testing.T) {
	const size = 5
	first := mostLsn - mostLsn%size // 2^61 is its sector 2
	g := logOf(t, 3, size)
	l := slices.Concat(
		inRow(first, 1, head(1, 1), commit(1, 0), commit(2, 0), switched()),
		inRow(first+size, 1, head(1, 3), commit(3, 1), switched()),
		inRow(first+2*size, 1, head(1, 4), commit(4, 1)))
	g.lay(l...)
	g.wantOpen("from 2^61 on", mostLsn, 1, first+2*size+4, l[2:])
	g.wantOpen("from its segment's beginning on", first, 1, first+2*size+4, l)
	g.wantAdd("behind it", commit(5, 0), 1, first/size+1, first+3*size+1)
	if _, e := g.l.Open(mostLsn+1, 1); e != api.ErrArg {
		t.Errorf("one beyond: %v", e)
	}
	want(t, "End", g.l.End(), first+3*size+2)
}

// What an elder opening left behind the end isn't told, though it stands just where the log goes on.
func TestOpenWithWhatAnElderOpeningLeft(t *testing.T) {
	g := logOf(t, 3, 8)
	left := slices.Concat(inRow(2, 1, commit(2, 0), commit(3, 0), switched()), inRow(8, 1, head(1, 4), commit(4, 0)))
	g.lay(inRow(0, 1, head(1, 1), commit(1, 0))...)
	g.lay(left[1:]...) // the crash lost the commit 2 alone
	first := inRow(0, 1, head(1, 1), commit(1, 0))
	g.wantOpen("behind the crash", 0, 1, 2, first)
	g.wantAdd("the new commit 2", commit(2, 0), 2, 0, 2)
	l := append(slices.Clone(first), at(2, 2, commit(2, 0)))
	g.wantOpen("the elder ones are behind it", 0, 2, 3, l)
	// The elder switch would lead to the elder head.
	g.wantAdd("the new commit 3", commit(33, 0), 2, 0, 3)
	l = append(l, at(3, 2, commit(33, 0)))
	g.wantOpen("the elder switch is behind it", 0, 2, 4, l)
	g.lay(at(4, 2, switched()))
	g.wantOpen("the elder head is behind the new switch", 0, 2, 8, append(slices.Clone(l), at(4, 2, switched())))
	want(t, "Start", g.l.Start(1, 3, 1, 34), api.OK)
	l = append(l, at(4, 2, switched()), at(8, 3, head(1, 34)))
	g.wantOpen("the elder commit is behind the new head", 0, 3, 9, l)
}

func TestOpenOfSpoiltSectors(t *testing.T) {
	l := chain()
	for i, x := range l {
		for sector := range x.Sectors {
			g := logOf(t, 3, 8)
			g.lay(l...)
			g.d.Flush()
			want(t, "Turn", g.d.Turn(g.sector(x.Lsn+sector), 200), api.OK)
			g.wantOpen(fmt.Sprintf("the sector %d of the %d-th", sector, i), 40, 1, endOf(40, 8, l[:i]), l[:i])
		}
	}
}

// Opened twice it is as opened once, by one log or by two.
func TestOpenTwice(t *testing.T) {
	g := logOf(t, 3, 8)
	l := chain()
	g.lay(l...)
	other, e := ring.New(g.d, 1, 3, 8)
	want(t, "New", e, api.OK)
	for range 2 {
		g.wantOpen("one log", 40, 1, 61, l)
		got, e := other.Open(40, 1)
		want(t, "Open", e, api.OK)
		wantEntries(t, "another log", got, l)
		want(t, "End", other.End(), 61)
	}
}

// Rule 5: what is answered is new memory, and no two entries share any.
func TestMemoryOfOpen(t *testing.T) {
	g := logOf(t, 3, 8)
	l := chain()
	g.lay(l...)
	one, _ := g.l.Open(40, 1)
	spoil(one[1])
	if wantEntries(t, "the other entries", one[2:], l[2:]); len(one) != len(l) {
		t.Fatalf("%d entries", len(one))
	}
	clear(one[:cap(one)])
	g.wantOpen("behind a change of what was answered", 40, 1, 61, l)
}

// Logs of all shapes are opened from each of their entries on as they were laid, up to each epoch.
func TestWhatIsAddedIsOpened(t *testing.T) {
	r := rand.New(rand.NewSource(84))
	for range 60 {
		g := logOf(t, 3+r.Intn(4), 4+r.Intn(12))
		p := &plain{segments: g.segments, size: g.size}
		segment, epoch := r.Intn(20), 1
		want(t, "Start", g.l.Start(segment, epoch, 1, 1), api.OK)
		p.put(segment*g.size, epoch, head(1, 1))
		for n := 1; n < 40; n++ {
			epoch += r.Intn(2) * r.Intn(2)
			c := commit(n, r.Intn(3)*r.Intn(2))
			place, e := g.l.Add(c, epoch, segment)
			wantedPlace, wanted := p.add(c, epoch, segment)
			if place != wantedPlace || e != wanted {
				t.Fatalf("Add %d %v, wanted %d %v", place, e, wantedPlace, wanted)
			}
		}
		for i, x := range p.laid {
			g.wantOpen("from an entry on", x.Lsn, epoch, p.end, p.laid[i:])
		}
		for upTo := range epoch + 1 {
			n := 0
			for n < len(p.laid) && p.laid[n].Epoch <= upTo {
				n++
			}
			g.wantOpen("up to an epoch", segment*g.size, upTo, endOf(segment*g.size, g.size, p.laid[:n]), p.laid[:n])
		}
	}
}
