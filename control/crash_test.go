package control_test

import (
	"bytes"
	"fmt"
	"math/rand"
	"testing"

	"breviary/api"
	"breviary/control"
	"breviary/dev"
)

// P9.3

// keepOf the bits of n.
func keepOf(n, count int) []bool {
	keep := make([]bool, count)
	for i := range keep {
		keep[i] = n>>i&1 == 1
	}
	return keep
}

// told is another control for each n.
func told(gen, n int) api.Control {
	return api.Control{Gen: gen, Epoch: n, Area: n % 2, Timeline: n + 1, Number: 3 * n, Redo: 5 * n, Low: 7 * n}
}

// behind is a device on which a first control was written, and a few sectors beside it wait.
func behind(t *testing.T, at, gen, waiting int) (*dev.Dev, api.Control) {
	t.Helper()
	d := filled(t, 8)
	first, e := control.Write(d, at, told(gen, 1))
	want(t, "the first one", e, api.OK)
	for n := range waiting {
		d.Write((at+2+n)%8, bytes.Repeat([]byte{byte(n)}, 64))
	}
	return d, first
}

// tried writes a control, and tells whether that went.
func tried(t *testing.T, d *dev.Dev, at int, c api.Control) bool {
	t.Helper()
	got, e := control.Write(d, at, c)
	switch e {
	case api.OK:
		c.Gen++
		want(t, "what is written", got, c)
		return true
	case api.ErrOff:
		want(t, "what is written beside an error", got, none)
		return false
	}
	t.Fatal(e)
	return false
}

// Crashes at each call of a Write behind another one, with each subset of what waits; then another Write, and a crash in that.
func TestCrashAtEachCall(t *testing.T) {
	elder, later := 0, 0
	for gen := range 5 {
		for beside := range 3 {
			for limit := range 3 {
				for n := range 1 << (beside + 1) {
					what := fmt.Sprintf("behind Gen %d, %d wait, limit %d, %b stays", gen, beside, limit, n)
					at := gen % 7
					d, first := behind(t, at, gen, beside)
					d.Limit(limit)
					next := told(first.Gen, 2)
					acknowledged := tried(t, d, at, next)
					want(t, what+": acknowledged", acknowledged, limit == 2)
					next.Gen++
					waiting := d.Waiting()
					want(t, what+": waiting", waiting, []int{beside, beside + 1, 0}[limit])
					d.Crash(keepOf(n, waiting))

					counts := first
					if acknowledged || limit == 1 && n>>beside&1 == 1 {
						counts = next
						later++
					} else {
						elder++
					}
					wantRead(t, what, d, at, counts, api.OK)
					wantAnother(t, what, d, at, counts)
				}
			}
		}
	}
	if elder < 20 || later < 20 {
		t.Errorf("the elder one was read %d times, the later one %d times", elder, later)
	}
}

// wantAnother: a Write behind a crash is like any, and a crash in it, too.
func wantAnother(t *testing.T, what string, d *dev.Dev, at int, counts api.Control) {
	t.Helper()
	third := told(counts.Gen, 3)
	d.Limit(1)
	want(t, what+", another one: acknowledged", tried(t, d, at, third), false)
	d.Crash(nil)
	wantRead(t, what+", another one is lost", d, at, counts, api.OK)
	want(t, what+", once again: acknowledged", tried(t, d, at, third), true)
	d.Crash(nil)
	third.Gen++
	wantRead(t, what+", once again", d, at, third, api.OK)
}

// A slot that is spoilt in a Write leaves the other one.
func TestSpoiltInAWrite(t *testing.T) {
	for gen := range 4 {
		for bit := range 512 {
			d, first := behind(t, 3, gen, 0)
			want(t, "acknowledged", tried(t, d, 3, told(first.Gen, 2)), true)
			d.Turn(3+(first.Gen+1)%2, bit)
			wantRead(t, fmt.Sprintf("behind Gen %d, bit %d", gen, bit), d, 3, first, api.OK)
		}
	}
}

// Behind nothing at all it is the one, or none.
func TestCrashInTheFirstWrite(t *testing.T) {
	for gen := range 3 {
		for limit := range 3 {
			for n := range 2 {
				d := device(t, 4)
				d.Limit(limit)
				acknowledged := tried(t, d, 1, told(gen, 1))
				d.Crash(keepOf(n, d.Waiting()))
				what := fmt.Sprintf("Gen %d, limit %d, %b stays", gen, limit, n)
				if acknowledged || limit == 1 && n == 1 {
					wantRead(t, what, d, 1, told(gen+1, 1), api.OK)
				} else {
					wantRead(t, what, d, 1, none, api.ErrForm)
				}
			}
		}
	}
}

// Many Writes and crashes, one behind the other, each on what was read.
func TestManyCrashes(t *testing.T) {
	for seed := range 100 {
		r := rand.New(rand.NewSource(int64(seed)))
		at := r.Intn(7)
		d, counts := behind(t, at, r.Intn(4), 0)
		for n := 2; n < 40; n++ {
			what := fmt.Sprintf("seed %d, the %d-th", seed, n)
			if r.Intn(2) == 0 {
				d.Limit(r.Intn(3))
			}
			next := told(counts.Gen, n)
			acknowledged := tried(t, d, at, next)
			next.Gen++
			if !acknowledged || r.Intn(3) == 0 {
				d.Crash(keepOf(r.Int(), d.Waiting()))
			}
			got, e := control.Read(d, at)
			want(t, what+": read, the error", e, api.OK)
			if got != next && (acknowledged || got != counts) {
				t.Fatalf("%s: %v is read, behind %v, with %v under way", what, got, counts, next)
			}
			counts = got
		}
	}
}
