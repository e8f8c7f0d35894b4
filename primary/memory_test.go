package primary_test

import (
	"bytes"
	"slices"
	"testing"

	"breviary/api"
)

// spoil all bytes of a list, its spare room too.
func spoil(b []byte) {
	b = b[:cap(b)]
	for i := range b {
		b[i] ^= 0xff
	}
}

func spoilInts(l []int) {
	l = l[:cap(l)]
	for i := range l {
		l[i] = -99
	}
}

// TestWriteKeepsNothing: what is handed in is neither changed nor kept, its spare room neither.
func TestWriteKeepsNothing(t *testing.T) {
	r := formatted(t, small)
	h := r.begin()
	roomy := append(block(5), block(6)...)
	data := roomy[:64]
	want(t, "Write", r.s.Write(h, 1, data), api.OK)
	wantBytes(t, "what was handed in", roomy, slices.Concat(block(5), block(6)))
	spoil(data)
	r.wantRead("written", h, 1, 5)
	_, e := r.s.Commit(h)
	want(t, "Commit", e, api.OK)
	spoil(data)
	r.wantDisk("committed", disk(0, 5, 0, 0))
	r.checkpoint()
	r.open()
	r.wantDisk("opened", disk(0, 5, 0, 0))
}

// TestAnswersAreNew: what is done to an answer no later call tells, and what is done later it doesn't tell.
func TestAnswersAreNew(t *testing.T) {
	r := formatted(t, small)
	r.commit(0, 1, 2, 3)
	r.turn()
	r.commit(1, 2)
	h := r.begun(3, 4)
	saved := []bool{false, true}
	for _, save := range saved {
		if save {
			r.checkpoint()
		}
		was := r.seen()
		for n := range 4 {
			b, e := r.s.Get(n)
			want(t, "Get", e, api.OK)
			spoil(b)
			b, e = r.s.Read(h, n)
			want(t, "Read", e, api.OK)
			spoil(b)
		}
		for n := range 3 {
			b, e := r.s.Segment(n)
			want(t, "Segment", e, api.OK)
			copyOf := bytes.Clone(b)
			spoil(b)
			b, e = r.s.Segment(n)
			want(t, "Segment", e, api.OK)
			wantBytes(t, "Segment", b, copyOf)
		}
		spoilInts(r.s.Since(0))
		spoilInts(r.s.Closed())
		x, e := r.s.Image()
		want(t, "Image", e, api.OK)
		spoil(x.Bytes())
		want(t, "what is seen", r.seen(), was)
		r.wantRead("its own", h, 3, 4)
	}
	since, closed := r.s.Since(0), r.s.Closed()
	b, e := r.s.Get(0)
	want(t, "Get", e, api.OK)
	own, e := r.s.Read(h, 3)
	want(t, "Read", e, api.OK)
	segment, e := r.s.Segment(2)
	want(t, "Segment", e, api.OK)
	elder := bytes.Clone(segment)
	r.write(h, 3, 9)
	r.commit(0, 8, 3, 7)
	r.keep(2)
	wantBytes(t, "Get of before", b, block(1))
	wantBytes(t, "Read of before", own, block(4))
	wantBytes(t, "Segment of before", segment, elder)
	wantList(t, "Since of before", since, 0, 1, 2)
	wantList(t, "Closed of before", closed, 1)
}

// TestSwapKeepsTheDisk: it stays, whatever is committed on the store behind it.
func TestSwapKeepsTheDisk(t *testing.T) {
	r := formatted(t, small)
	x := imageOf(t, disk(1, 2, 3, 4))
	want(t, "Swap", r.s.Swap(x, 2, 7), api.OK)
	r.commit(0, 9)
	r.checkpoint()
	wantBytes(t, "the disk", x.Bytes(), disk(1, 2, 3, 4))
	r.wantDisk("the store", disk(9, 2, 3, 4))
}

// TestStoresAreApart: two stores on two devices have nothing in common.
func TestStoresAreApart(t *testing.T) {
	one, other := formatted(t, small), formatted(t, small)
	one.commit(0, 1)
	one.turn()
	h := one.begun(1, 2)
	other.wantStatus("the other one", api.Status{Timeline: 1, Epoch: 1, End: 9, Redo: 8, Keep: 1})
	other.wantDisk("the other one", disk(0, 0, 0, 0))
	want(t, "a handle of the first one", other.s.Abort(h), api.ErrHandle)
	turnOff(t, other.d)
	_, e := one.s.Commit(h)
	want(t, "the first one is on", e, api.OK)
}

// TestExample of the chapter: Format; Begin, Write, Commit: 1.
func TestExample(t *testing.T) {
	want(t, "Commit", formatted(t, small).commit(0, 1), 1)
}
