package primary_test

import (
	"bytes"
	"fmt"
	"math"
	"slices"
	"testing"

	"breviary/api"
	"breviary/control"
	"breviary/dev"
	"breviary/frame"
	"breviary/image"
	"breviary/primary"
	"breviary/record"
)

const (
	mostEpoch    = 1<<32 - 1
	mostGen      = 1 << 61
	mostTimeline = 1<<31 - 1
	mostCommit   = 1 << 40
	mostSegment  = 1 << 40
)

// small is the shape of the chapter's example: commits of one block need three sectors, so that a segment has two of them.
var small = api.Shape{Blocks: 4, Segments: 3, Size: 8}

func want[T comparable](t *testing.T, what string, got, wanted T) {
	t.Helper()
	if got != wanted {
		t.Errorf("%s: %v, wanted %v", what, got, wanted)
	}
}

func wantList(t *testing.T, what string, got []int, wanted ...int) {
	t.Helper()
	if !slices.Equal(got, wanted) {
		t.Errorf("%s: %v, wanted %v", what, got, wanted)
	}
}

func wantBytes(t *testing.T, what string, got, wanted []byte) {
	t.Helper()
	if !bytes.Equal(got, wanted) {
		t.Errorf("%s: %s, wanted %s", what, short(got), short(wanted))
	}
}

// short tells the first three bytes of each sector.
func short(b []byte) string {
	s := fmt.Sprint(len(b), " bytes:")
	for sector := range slices.Chunk(b, 64) {
		s += fmt.Sprintf(" %x", sector[:min(3, len(sector))])
	}
	return s
}

// block of 64 bytes, each of them n.
func block(n byte) []byte {
	return bytes.Repeat([]byte{n}, 64)
}

// disk of blocks, each of which is told by a byte.
func disk(bytes ...byte) []byte {
	var all []byte
	for _, n := range bytes {
		all = append(all, block(n)...)
	}
	return all
}

func imageOf(t *testing.T, b []byte) *image.Disk {
	t.Helper()
	x, e := image.From(b)
	want(t, "a disk", e, api.OK)
	return x
}

// odd bytes: no two that are near to each other are alike, and no two sectors are.
func odd(length int) []byte {
	b := make([]byte, length)
	for i := range b {
		b[i] = byte(i*7 + i/64*31 + 5)
	}
	return b
}

// ends of the numbers, and what wraps round to a number in range, if it is added to, cut or multiplied.
func ends() []int {
	return []int{
		math.MinInt, math.MinInt + 1, math.MinInt + 63, math.MinInt32, -1 << 40, -1 << 32, -65, -64, -2, -1,
		math.MaxInt32, math.MaxInt32 + 1, 1 << 32, 1<<32 + 1, 1<<32 + 4, 1<<58 + 1, 1<<61 + 1, 1<<62 + 4, math.MaxInt - 64, math.MaxInt - 1, math.MaxInt,
	}
}

// needOf a right shape: two slots, two areas, and the ring.
func needOf(s api.Shape) int {
	return 2 + s.Blocks + s.Blocks + s.Segments*s.Size
}

// device of noughts.
func device(t *testing.T, sectors int) *dev.Dev {
	t.Helper()
	d, e := dev.New(sectors)
	if e != api.OK {
		t.Fatalf("a device of %d: %v", sectors, e)
	}
	return d
}

// filled is a device whose sectors are no noughts.
func filled(t *testing.T, sectors int) *dev.Dev {
	t.Helper()
	d := device(t, sectors)
	lay(t, d, 0, odd(64*sectors))
	return d
}

// lay bytes on a device, so that they stay.
func lay(t *testing.T, d *dev.Dev, at int, b []byte) {
	t.Helper()
	want(t, "written", d.Write(at, b), api.OK)
	want(t, "flushed", d.Flush(), api.OK)
}

// turnOff makes a device answer nothing but ErrOff.
func turnOff(t *testing.T, d *dev.Dev) {
	t.Helper()
	d.Limit(0)
	want(t, "turned off", d.Flush(), api.ErrOff)
}

// layControl lays a control into its slot.
func layControl(t *testing.T, d *dev.Dev, c api.Control) {
	t.Helper()
	b := control.Put(c)
	if len(b) != 64 {
		t.Fatalf("no control: %+v", c)
	}
	lay(t, d, c.Gen%2, b)
}

// counts is the control that a device has.
func counts(t *testing.T, d *dev.Dev) api.Control {
	t.Helper()
	c, e := control.Read(d, 0)
	want(t, "a control is there", e, api.OK)
	return c
}

// sectorAt is where a place of the log lies.
func sectorAt(s api.Shape, place int) int {
	return 2 + 2*s.Blocks + place/s.Size%s.Segments*s.Size + place%s.Size
}

func head(timeline, number int) api.Record {
	return api.Record{Kind: 1, Timeline: timeline, Number: number}
}

func switched() api.Record {
	return api.Record{Kind: 2}
}

// commit of blocks, in pairs: its number, and the byte that it has.
func commit(timeline, number int, pairs ...byte) api.Record {
	r := api.Record{Kind: 3, Timeline: timeline, Number: number}
	for pair := range slices.Chunk(pairs, 2) {
		r.Writes = append(r.Writes, api.Write{Block: int(pair[0]), B: block(pair[1])})
	}
	return r
}

// sectorsOf so many writes a commit takes: 15 bytes and 66 of each, 40 in a sector.
func sectorsOf(writes int) int {
	return (15 + 66*writes + 39) / 40
}

func framesOf(place, epoch int, r api.Record) []byte {
	return frame.Spread(place, epoch, record.Put(r))
}

// layRecord lays a record at a place of the log, and tells the place behind it.
func layRecord(t *testing.T, d *dev.Dev, s api.Shape, place, epoch int, r api.Record) int {
	t.Helper()
	b := framesOf(place, epoch, r)
	if len(b) == 0 {
		t.Fatalf("no record: %+v", r)
	}
	lay(t, d, sectorAt(s, place), b)
	return place + len(b)/64
}

// stands: the record's frames are in the sectors of that place, in bytes that a device has.
func stands(image []byte, s api.Shape, place, epoch int, r api.Record) bool {
	b := framesOf(place, epoch, r)
	at := 64 * sectorAt(s, place)
	return len(b) > 0 && bytes.Equal(image[at:at+len(b)], b)
}

func wantStands(t *testing.T, what string, d *dev.Dev, s api.Shape, place, epoch int, r api.Record) {
	t.Helper()
	if !stands(d.Image(), s, place, epoch, r) {
		t.Errorf("%s: at %d there isn't, of epoch %d, %v", what, place, epoch, r)
	}
}

// rig is a store on a device.
type rig struct {
	t     *testing.T
	shape api.Shape
	d     *dev.Dev
	s     *primary.Store
}

// formatted store, on a device with a sector more than it needs.
func formatted(t *testing.T, s api.Shape) *rig {
	t.Helper()
	r := &rig{t: t, shape: s, d: device(t, needOf(s)+1)}
	r.format()
	return r
}

func (r *rig) format() {
	r.t.Helper()
	s, e := primary.Format(r.d, r.shape)
	if e != api.OK || s == nil {
		r.t.Fatalf("Format: %v, %v", s, e)
	}
	r.s = s
}

func (r *rig) open() {
	r.t.Helper()
	s, e := primary.Open(r.d, r.shape)
	if e != api.OK || s == nil {
		r.t.Fatalf("Open: %v, %v", s, e)
	}
	r.s = s
}

func (r *rig) begin() int {
	r.t.Helper()
	h, e := r.s.Begin()
	want(r.t, "Begin", e, api.OK)
	return h
}

func (r *rig) write(h, n int, b byte) {
	r.t.Helper()
	want(r.t, "Write", r.s.Write(h, n, block(b)), api.OK)
}

// begun: a transaction that has written blocks, in pairs: its number, and the byte that it has.
func (r *rig) begun(pairs ...byte) int {
	r.t.Helper()
	h := r.begin()
	for pair := range slices.Chunk(pairs, 2) {
		r.write(h, int(pair[0]), pair[1])
	}
	return h
}

func (r *rig) commit(pairs ...byte) int {
	r.t.Helper()
	n, e := r.s.Commit(r.begun(pairs...))
	want(r.t, "Commit", e, api.OK)
	return n
}

// refused commit: an error, no number, and the transaction is open still.
func (r *rig) refused(what string, wanted api.Errno, pairs ...byte) {
	r.t.Helper()
	h := r.begun(pairs...)
	r.refusedOf(what, h, wanted)
	want(r.t, what+": Abort", r.s.Abort(h), api.OK)
}

func (r *rig) refusedOf(what string, h int, wanted api.Errno) {
	r.t.Helper()
	was, calls := r.seen(), r.d.Calls()
	n, e := r.s.Commit(h)
	want(r.t, what, e, wanted)
	want(r.t, what+": a number", n, 0)
	want(r.t, what+": what is seen", r.seen(), was)
	want(r.t, what+": calls of the device", r.d.Calls(), calls)
}

func (r *rig) checkpoint() {
	r.t.Helper()
	want(r.t, "Checkpoint", r.s.Checkpoint(), api.OK)
}

func (r *rig) turn() {
	r.t.Helper()
	want(r.t, "Turn", r.s.Turn(), api.OK)
}

func (r *rig) swap(b []byte, timeline, number int) {
	r.t.Helper()
	want(r.t, "Swap", r.s.Swap(imageOf(r.t, b), timeline, number), api.OK)
}

func (r *rig) keep(n int) {
	r.s.Keep(n)
}

// seen is what a store tells of itself.
type seen struct {
	status api.Status
	disk   string
	closed string
	since  string
}

func (r *rig) seen() seen {
	r.t.Helper()
	x, e := r.s.Image()
	want(r.t, "Image", e, api.OK)
	v := seen{status: r.s.Status(), disk: string(x.Bytes())}
	for _, n := range r.s.Closed() {
		v.closed += " " + text(n)
	}
	for _, n := range []int{-1, 0, 1, v.status.Number - 2, v.status.Number - 1, v.status.Number} {
		for _, k := range r.s.Since(n) {
			v.since += " " + text(k)
		}
		v.since += ";"
	}
	return v
}

func text(n int) string {
	if n < 10 {
		return string(rune('0' + n))
	}
	return text(n/10) + text(n%10)
}

// wantDisk asks Get and Image for all blocks.
func (r *rig) wantDisk(what string, wanted []byte) {
	r.t.Helper()
	x, e := r.s.Image()
	want(r.t, what+": Image", e, api.OK)
	wantBytes(r.t, what+": Image", x.Bytes(), wanted)
	want(r.t, what+": blocks", x.Blocks(), r.shape.Blocks)
	for n := range r.shape.Blocks {
		b, e := r.s.Get(n)
		want(r.t, what+": Get", e, api.OK)
		wantBytes(r.t, what+": Get", b, wanted[64*n:64*n+64])
	}
}

func (r *rig) wantStatus(what string, wanted api.Status) {
	r.t.Helper()
	if got := r.s.Status(); got != wanted {
		r.t.Errorf("%s: Status: %+v, wanted %+v", what, got, wanted)
	}
}

// wantSame: nothing was done on the device, and the bytes that stay are those that were.
func wantSame(t *testing.T, what string, d *dev.Dev, calls int, was []byte) {
	t.Helper()
	want(t, what+": calls of the device", d.Calls(), calls)
	want(t, what+": what waits", d.Waiting(), 0)
	if !bytes.Equal(d.Image(), was) {
		t.Errorf("%s: the device has changed", what)
	}
}
