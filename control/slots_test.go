package control_test

import (
	"bytes"
	"fmt"
	"math"
	"testing"

	"breviary/api"
	"breviary/control"
	"breviary/dev"
)

// P9.2

func device(t *testing.T, sectors int) *dev.Dev {
	t.Helper()
	d, e := dev.New(sectors)
	if e != api.OK {
		t.Fatalf("a device of %d: %v", sectors, e)
	}
	return d
}

// lay sectors on a device, and flush them.
func lay(t *testing.T, d *dev.Dev, at int, sectors ...[]byte) {
	t.Helper()
	if e := d.Write(at, bytes.Join(sectors, nil)); e != api.OK {
		t.Fatalf("sectors at %d: %v", at, e)
	}
	if e := d.Flush(); e != api.OK {
		t.Fatal(e)
	}
}

// filled is a device without a sector that a control could be taken from, but that is none of noughts.
func filled(t *testing.T, sectors int) *dev.Dev {
	t.Helper()
	d := device(t, sectors)
	lay(t, d, 0, bytes.Repeat([]byte{0xA5}, 64*sectors))
	return d
}

// face is all that later calls could tell of a device.
type face struct {
	image, seen    string
	waiting, calls int
	off            bool
}

func faceOf(d *dev.Dev) face {
	seen, _ := d.Read(0, d.Size())
	return face{string(d.Image()), string(seen), d.Waiting(), d.Calls(), d.Off()}
}

// wantRead by Read, which changes nothing.
func wantRead(t *testing.T, what string, d *dev.Dev, at int, c api.Control, e api.Errno) {
	t.Helper()
	was := faceOf(d)
	got, err := control.Read(d, at)
	want(t, what+": read", got, c)
	want(t, what+": read, the error", err, e)
	if faceOf(d) != was {
		t.Errorf("%s: Read changed the device", what)
	}
}

// wantWritten by Write.
func wantWritten(t *testing.T, what string, d *dev.Dev, at int, c, wanted api.Control) {
	t.Helper()
	got, e := control.Write(d, at, c)
	want(t, what+": written", got, wanted)
	want(t, what+": written, the error", e, api.OK)
}

// wantRefused by Write, which changes nothing then.
func wantRefused(t *testing.T, what string, d *dev.Dev, at int, c api.Control, e api.Errno) {
	t.Helper()
	was := faceOf(d)
	got, err := control.Write(d, at, c)
	want(t, what+": refused", got, none)
	want(t, what+": refused, the error", err, e)
	if faceOf(d) != was {
		t.Errorf("%s: what is refused changed the device", what)
	}
}

// Two sectors, and the control of them that counts.
func TestReadOfTwoSlots(t *testing.T) {
	spoilt := func(gen int) []byte {
		b := sectorOf(plain(gen))
		b[30] ^= 1
		return b
	}
	wrong := func(gen int) []byte {
		return spelt(uint64(gen), 300, 0, 1, append([]byte{2}, bodyOf(plain(gen))[1:]...))
	}
	many := func(gen int) []byte { return spelt(uint64(gen), 300, 0, 2, bodyOf(plain(gen))) }
	of := func(gen int) []byte { return sectorOf(plain(gen)) }
	noughts := make([]byte, 64)
	for _, x := range []struct {
		what        string
		first, next []byte
		gen         int // 0: there is none
	}{
		{"4 and 5", of(4), of(5), 5},
		{"6 and 5", of(6), of(5), 6},
		{"2 and 1", of(2), of(1), 2},
		{"2 and 3", of(2), of(3), 3},
		{"far ones, the first one's greater", of(mostGen), of(1), mostGen},
		{"far ones, the second one's greater", of(2), of(mostGen - 1), mostGen - 1},
		{"the greatest ones", of(mostGen), of(mostGen - 1), mostGen},
		{"none", noughts, noughts, 0},
		{"the first one alone", of(4), noughts, 4},
		{"the second one alone", noughts, of(5), 5},
		{"the second one alone, Gen 1", noughts, of(1), 1},
		{"the first one spoilt", spoilt(6), of(5), 5},
		{"the second one spoilt", of(4), spoilt(5), 4},
		{"both spoilt", spoilt(4), spoilt(5), 0},
		{"the first one not right", wrong(6), of(5), 5},
		{"the second one not right", of(4), wrong(5), 4},
		{"both not right", wrong(4), wrong(5), 0},
		{"the first one not alone", many(6), of(5), 5},
		{"the second one not alone", of(4), many(5), 4},
		{"Gen 0 in the first one", spelt(0, 300, 0, 1, bodyOf(plain(0))), of(1), 1},
		{"Gen 0 alone", spelt(0, 300, 0, 1, bodyOf(plain(0))), noughts, 0},
		{"Gen 2^61 + 2 in the first one", spelt(mostGen+2, 300, 0, 1, bodyOf(plain(0))), of(1), 1},
		{"an odd one in the first one", of(5), noughts, 0},
		{"an even one in the second one", noughts, of(4), 0},
		{"each in the other's slot", of(5), of(4), 0},
		{"each in the other's slot, the other way", of(5), of(6), 0},
		{"a greater one in the other's slot", of(4), of(6), 4},
		{"a greater one in the other's slot, the other way", of(7), of(5), 5},
		{"a lesser one in the other's slot", of(4), of(2), 4},
		{"a lesser one in the other's slot, the other way", of(3), of(5), 5},
		{"equal even ones", of(4), of(4), 4},
		{"equal odd ones", of(5), of(5), 5},
	} {
		for _, at := range []int{0, 1, 4, 6} { // at 6 the slots are the last two sectors
			d := filled(t, 8)
			lay(t, d, at, x.first, x.next)
			what := fmt.Sprintf("%s, at %d", x.what, at)
			if x.gen == 0 {
				wantRead(t, what, d, at, none, api.ErrForm)
			} else {
				wantRead(t, what, d, at, plain(x.gen), api.OK)
			}
		}
	}
}

// Where equal Gens tell other things, the one in its slot counts.
func TestReadOfEqualGens(t *testing.T) {
	for gen := 4; gen <= 5; gen++ {
		for there := range 2 {
			mine, other := plain(gen), with(plain(gen), func(c *api.Control) { c.Number = 99; c.Epoch = 301 })
			sectors := [][]byte{sectorOf(other), sectorOf(other)}
			sectors[there] = sectorOf(mine)
			d := filled(t, 2)
			lay(t, d, 0, sectors...)
			counts := other
			if there == gen%2 {
				counts = mine
			}
			wantRead(t, fmt.Sprintf("Gen %d, in the slot %d", gen, there), d, 0, counts, api.OK)
		}
	}
}

// A greater Gen counts, whatever else is less.
func TestReadLooksAtGensAlone(t *testing.T) {
	least := func(gen int) api.Control { return api.Control{Gen: gen, Timeline: 1} }
	most := func(gen int) api.Control {
		return all(gen, mostEpoch, 1, mostTimeline, mostNumber, mostPlace, mostPlace)
	}
	d := filled(t, 2)
	lay(t, d, 0, sectorOf(least(6)), sectorOf(most(5)))
	wantRead(t, "the first one", d, 0, least(6), api.OK)
	lay(t, d, 0, sectorOf(most(6)), sectorOf(least(7)))
	wantRead(t, "the second one", d, 0, least(7), api.OK)
}

// The slots are those at the place and behind it, no others.
func TestReadOfPlaces(t *testing.T) {
	d := filled(t, 6)
	lay(t, d, 1, sectorOf(plain(8)), sectorOf(plain(4)), sectorOf(plain(5)), sectorOf(plain(9)))
	wantRead(t, "at 2", d, 2, plain(5), api.OK)
	wantRead(t, "at 1", d, 1, plain(8), api.OK)
	wantRead(t, "at 0", d, 0, none, api.ErrForm)
	wantRead(t, "at 3", d, 3, plain(9), api.OK)
	wantRead(t, "at 4", d, 4, none, api.ErrForm)
}

// What waits is read, over what stays.
func TestReadOfWhatWaits(t *testing.T) {
	d := filled(t, 4)
	lay(t, d, 1, sectorOf(plain(4)), sectorOf(plain(5)))
	d.Write(1, sectorOf(plain(6)))
	wantRead(t, "Gen 6 waits", d, 1, plain(6), api.OK)
	d.Write(1, make([]byte, 64))
	wantRead(t, "noughts wait over it", d, 1, plain(5), api.OK)
	d.Crash(nil)
	wantRead(t, "nothing of that stays", d, 1, plain(5), api.OK)
}

// The device's errors.
func TestReadOfNoPlace(t *testing.T) {
	for _, size := range []int{1, 2, 5} {
		d := device(t, size)
		for at := range size {
			lay(t, d, at, sectorOf(plain(4+at%2)))
		}
		for _, at := range []int{-1, -2, math.MinInt, size - 1, size, size + 1, math.MaxInt - 1, math.MaxInt} {
			wantRead(t, fmt.Sprintf("at %d of %d", at, size), d, at, none, api.ErrRange)
		}
		d.Limit(0)
		d.Flush()
		for _, at := range []int{-1, 0, size - 1, size, math.MaxInt} {
			wantRead(t, fmt.Sprintf("off, at %d of %d", at, size), d, at, none, api.ErrOff)
		}
	}
}

// Each written one goes into its slot, and is read then.
func TestWriteInTurn(t *testing.T) {
	for _, at := range []int{0, 3, 4} {
		d := filled(t, 6)
		c := plain(0)
		for n := range 9 {
			what := fmt.Sprintf("Gen %d at %d", n+1, at)
			c.Epoch, c.Area, c.Number = n, n/3%2, 10*n
			next := with(c, func(c *api.Control) { c.Gen = n + 1 })
			image := d.Image()
			calls := d.Calls()
			wantWritten(t, what, d, at, c, next)
			copy(image[64*(at+(n+1)%2):], sectorOf(next))
			if !bytes.Equal(d.Image(), image) {
				t.Errorf("%s: not its slot alone has it", what)
			}
			want(t, what+": calls", d.Calls(), calls+2) // a Write and a Flush
			want(t, what+": waiting", d.Waiting(), 0)
			wantRead(t, what, d, at, next, api.OK)
			c = next
		}
	}
}

// Gens at their ends; what is there isn't asked for.
func TestWriteOfGens(t *testing.T) {
	for _, gen := range []int{0, 1, 2, 7, 1 << 32, mostGen - 3, mostGen - 2, mostGen - 1} {
		d := filled(t, 4)
		lay(t, d, 1, sectorOf(plain(4)), sectorOf(plain(5)))
		what := fmt.Sprintf("Gen %d", gen)
		wantWritten(t, what, d, 1, plain(gen), plain(gen+1))
		if b, _ := d.Read(1+(gen+1)%2, 1); !bytes.Equal(b, sectorOf(plain(gen+1))) {
			t.Errorf("%s: its slot has %x", what, b)
		}
		wantRead(t, what, d, 1, plain(max(gen+1, 4+gen%2)), api.OK) // 4 or 5 is left in the other slot
	}
	for _, gen := range []int{mostGen, mostGen + 1, mostGen + 2, mostLsn, math.MaxInt} {
		d := filled(t, 4)
		what := fmt.Sprintf("Gen %d", gen)
		wantRefused(t, what, d, 1, plain(gen), api.ErrSpent)
		wantRefused(t, what+", and nothing else right", d, 1, api.Control{Gen: gen, Area: 2, Low: -1}, api.ErrSpent)
		wantRefused(t, what+", at -1", d, -1, plain(gen), api.ErrSpent)
		wantRefused(t, what+", at 5 of 4", d, 5, plain(gen), api.ErrSpent)
		wantRefused(t, what+", at 4 of 4", d, 4, plain(gen), api.ErrSpent)
		d.Limit(0)
		d.Flush()
		wantRefused(t, what+", off", d, 1, plain(gen), api.ErrSpent)
	}
	for _, gen := range []int{-1, -2, -3, -mostGen, math.MinInt + 1, math.MinInt} {
		wantRefused(t, fmt.Sprintf("Gen %d", gen), filled(t, 4), 1, plain(gen), api.ErrArg)
	}
}

// The other fields are those of a right one, and go in as they are.
func TestWriteOfFields(t *testing.T) {
	for _, c := range rightOnes() {
		if c.Gen < mostGen {
			d := filled(t, 3)
			next := with(c, func(c *api.Control) { c.Gen++ })
			wantWritten(t, fmt.Sprint(c), d, 1, c, next)
			wantRead(t, fmt.Sprint(c), d, 1, next, api.OK)
		}
	}
	for what, c := range wrongOnes() {
		next := with(c, func(c *api.Control) { c.Gen++ })
		d := filled(t, 3)
		switch {
		case c.Gen >= mostGen:
			wantRefused(t, what, d, 1, c, api.ErrSpent)
		case control.Right(next):
			wantWritten(t, what, d, 1, c, next) // Gen 0 alone isn't right
		default:
			wantRefused(t, what, d, 1, c, api.ErrArg)
			wantRefused(t, what+", at -1", d, -1, c, api.ErrArg)
			wantRefused(t, what+", at the end", d, 3, c, api.ErrArg)
			d.Limit(0)
			d.Flush()
			wantRefused(t, what+", off", d, 1, c, api.ErrArg)
		}
	}
}

// Places: those that are none, those at the device's end, and those at which a slot alone is there.
func TestWriteOfPlaces(t *testing.T) {
	for _, size := range []int{1, 2, 5} {
		for gen := range 2 {
			d := filled(t, size)
			what := fmt.Sprintf("Gen %d of %d sectors", gen, size)
			for _, at := range []int{-1, -2, math.MinInt, size + 1, size + 2, math.MaxInt} {
				wantRefused(t, fmt.Sprintf("%s, at %d", what, at), d, at, plain(gen), api.ErrArg)
			}
			wantRefused(t, what+", at the end", d, size, plain(gen), api.ErrRange)
			if gen == 0 { // its slot is the one that isn't there
				wantRefused(t, what+", at the last sector", d, size-1, plain(gen), api.ErrRange)
				continue
			}
			wantWritten(t, what+", at the last sector", d, size-1, plain(gen), plain(gen+1))
			if image := d.Image(); !bytes.Equal(image[64*(size-1):], sectorOf(plain(gen+1))) {
				t.Errorf("%s: the last sector has %x", what, image[64*(size-1):])
			}
		}
	}
}

// A device that is off, or goes off.
func TestWriteOfADeviceThatGoesOff(t *testing.T) {
	for gen := 5; gen <= 6; gen++ {
		d := filled(t, 4)
		lay(t, d, 1, sectorOf(plain(6)), sectorOf(plain(5)))
		image := d.Image()
		what := fmt.Sprintf("Gen %d", gen)

		d.Limit(0)
		got, e := control.Write(d, 1, plain(gen))
		want(t, what+", ahead of its Write", got, none)
		want(t, what+", ahead of its Write: the error", e, api.ErrOff)
		want(t, what+", ahead of its Write: waiting", d.Waiting(), 0)
		wantRefused(t, what+", off", d, 1, plain(gen), api.ErrOff)
		wantRefused(t, what+", off, at the last sector", d, 3, plain(gen), api.ErrOff)
		wantRefused(t, what+", off, at the end", d, 4, plain(gen), api.ErrOff)
		wantRefused(t, what+", off, at 5", d, 5, plain(gen), api.ErrArg)
		wantRefused(t, what+", off, at -1", d, -1, plain(gen), api.ErrArg)
		d.Crash(nil)

		d.Limit(1)
		got, e = control.Write(d, 1, plain(gen))
		want(t, what+", ahead of its Flush", got, none)
		want(t, what+", ahead of its Flush: the error", e, api.ErrOff)
		want(t, what+", ahead of its Flush: waiting", d.Waiting(), 1)
		if !bytes.Equal(d.Image(), image) {
			t.Errorf("%s: something stays that wasn't flushed", what)
		}
		d.Crash([]bool{true})
		wantRead(t, what+", what waited stays", d, 1, plain(gen+1), api.OK)

		d.Limit(2)
		wantWritten(t, what+", at the limit", d, 1, plain(gen+1), plain(gen+2))
		want(t, what+", at the limit: off", d.Off(), false)
	}
}

// What waited ahead of a Write is flushed with it.
func TestWriteFlushesAll(t *testing.T) {
	d := filled(t, 5)
	other := bytes.Repeat([]byte{7}, 64)
	d.Write(0, other)
	d.Write(4, other)
	wantWritten(t, "Gen 4", d, 1, plain(4), plain(5))
	want(t, "waiting", d.Waiting(), 0)
	d.Crash(nil)
	image := d.Image()
	if !bytes.Equal(image[:64], other) || !bytes.Equal(image[64*4:], other) {
		t.Error("what waited is lost")
	}
	wantRead(t, "behind the crash", d, 1, plain(5), api.OK)
}

// The example: Write of Gen 4: Gen 5, in the second slot.
func TestExample(t *testing.T) {
	d := device(t, 2)
	c, e := control.Write(d, 0, api.Control{Gen: 4, Timeline: 1})
	want(t, "the error", e, api.OK)
	want(t, "Gen", c.Gen, 5)
	b, _ := d.Read(1, 1)
	wantGot(t, "the second slot", b, c, api.OK)
	b, _ = d.Read(0, 1)
	wantGot(t, "the first slot", b, none, api.ErrForm)
}

// A nil device: ErrNil, whatever else is wrong.
func TestNilDevice(t *testing.T) {
	for _, at := range []int{math.MinInt, -1, 0, 1, math.MaxInt} {
		c, e := control.Read(nil, at)
		want(t, "Read", c, none)
		want(t, "Read, the error", e, api.ErrNil)
		for _, gen := range []int{math.MinInt, -1, 0, 4, mostGen, math.MaxInt} {
			for _, x := range []api.Control{plain(gen), {Gen: gen}} {
				c, e := control.Write(nil, at, x)
				want(t, "Write", c, none)
				want(t, "Write, the error", e, api.ErrNil)
			}
		}
	}
}
