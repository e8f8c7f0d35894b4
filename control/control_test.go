package control_test

import (
	"bytes"
	"encoding/binary"
	"fmt"
	"hash/crc32"
	"math"
	"testing"

	"breviary/api"
	"breviary/control"
	"breviary/frame"
)

const (
	mostGen      = 1 << 61
	mostLsn      = 1<<62 - 1
	mostEpoch    = 1<<32 - 1
	mostTimeline = 1<<31 - 1
	mostNumber   = 1 << 40
	mostPlace    = 1 << 61
)

var none api.Control

// plain is a control with another number in each of its fields.
func plain(gen int) api.Control {
	return api.Control{Gen: gen, Epoch: 300, Area: 1, Timeline: 70000, Number: 5<<32 + 6, Redo: 7<<40 + 8, Low: 9<<48 + 10}
}

// all fields of a control, in the order in which it has them.
func all(gen, epoch, area, timeline, number, redo, low int) api.Control {
	return api.Control{Gen: gen, Epoch: epoch, Area: area, Timeline: timeline, Number: number, Redo: redo, Low: low}
}

// with is a control that change has changed.
func with(c api.Control, change func(c *api.Control)) api.Control {
	change(&c)
	return c
}

// field of a control, and its edges.
type field struct {
	name        string
	of          func(c *api.Control) *int
	least, most int
}

func fields() []field {
	return []field{
		{"Gen", func(c *api.Control) *int { return &c.Gen }, 1, mostGen},
		{"Epoch", func(c *api.Control) *int { return &c.Epoch }, 0, mostEpoch},
		{"Area", func(c *api.Control) *int { return &c.Area }, 0, 1},
		{"Timeline", func(c *api.Control) *int { return &c.Timeline }, 1, mostTimeline},
		{"Number", func(c *api.Control) *int { return &c.Number }, 0, mostNumber},
		{"Redo", func(c *api.Control) *int { return &c.Redo }, 0, mostPlace},
		{"Low", func(c *api.Control) *int { return &c.Low }, 0, mostPlace},
	}
}

// bases are right controls: all fields least, all most, and neither.
func bases() []api.Control {
	return []api.Control{
		{Gen: 1, Timeline: 1},
		all(mostGen, mostEpoch, 1, mostTimeline, mostNumber, mostPlace, mostPlace),
		plain(4),
		plain(5),
	}
}

func rightOnes() []api.Control {
	l := bases()
	for _, base := range bases() {
		for _, f := range fields() {
			for _, n := range []int{f.least, f.least + 1, f.most - 1, f.most, f.least + (f.most-f.least)/3} {
				l = append(l, with(base, func(c *api.Control) { *f.of(c) = n }))
			}
		}
	}
	return l
}

func wrongOnes() map[string]api.Control {
	m := map[string]api.Control{
		"the zero one":           none,
		"all fields -1":          all(-1, -1, -1, -1, -1, -1, -1),
		"all fields one beyond":  all(mostGen+1, mostEpoch+1, 2, mostTimeline+1, mostNumber+1, mostPlace+1, mostPlace+1),
		"Gen and Timeline are 0": all(0, 1, 1, 0, 1, 1, 1),
	}
	for i, base := range bases() {
		for _, f := range fields() {
			for _, n := range []int{f.least - 1, f.most + 1, -f.most, math.MinInt, math.MaxInt, f.least - 1<<32, f.most + 1<<32} {
				m[fmt.Sprintf("%d: %s %d", i, f.name, n)] = with(base, func(c *api.Control) { *f.of(c) = n })
			}
		}
	}
	return m
}

// spelt is a sector by the library, with a right sum, whatever its fields are.
func spelt(lsn uint64, epoch uint32, index, count uint16, body []byte) []byte {
	b := binary.BigEndian.AppendUint64([]byte{0xB7, 0x1E}, lsn)
	b = binary.BigEndian.AppendUint32(b, epoch)
	b = binary.BigEndian.AppendUint16(b, index)
	b = binary.BigEndian.AppendUint16(b, count)
	b = binary.BigEndian.AppendUint16(b, uint16(len(body)))
	b = append(b, body...)
	b = append(b, make([]byte, 60-len(b))...)
	return binary.LittleEndian.AppendUint32(b, crc32.ChecksumIEEE(b))
}

func bodyOf(c api.Control) []byte {
	b := binary.BigEndian.AppendUint32([]byte{byte(c.Area)}, uint32(c.Timeline))
	b = binary.BigEndian.AppendUint64(b, uint64(c.Number))
	b = binary.BigEndian.AppendUint64(b, uint64(c.Redo))
	return binary.BigEndian.AppendUint64(b, uint64(c.Low))
}

func sectorOf(c api.Control) []byte {
	return spelt(uint64(c.Gen), uint32(c.Epoch), 0, 1, bodyOf(c))
}

func want[T comparable](t *testing.T, what string, got, wanted T) {
	t.Helper()
	if got != wanted {
		t.Errorf("%s: %v, wanted %v", what, got, wanted)
	}
}

// wantGot by Get; beside an error the control is the zero one.
func wantGot(t *testing.T, what string, b []byte, c api.Control, e api.Errno) {
	t.Helper()
	got, err := control.Get(b)
	want(t, what, got, c)
	want(t, what+", the error", err, e)
}

// P9.1: right controls, and their sectors.
func TestRightControls(t *testing.T) {
	for i, c := range rightOnes() {
		what := fmt.Sprintf("%d: %v", i, c)
		want(t, what+": Right", control.Right(c), true)
		if got := control.Put(c); !bytes.Equal(got, sectorOf(c)) {
			t.Errorf("%s: put as %x, wanted %x", what, got, sectorOf(c))
		}
		wantGot(t, what, sectorOf(c), c, api.OK)
		wantGot(t, what+", put", control.Put(c), c, api.OK)
	}
}

// P9.1: a sector, byte by byte.
func TestSectorByBytes(t *testing.T) {
	c := api.Control{Gen: 0x0102030405060708, Epoch: 0x090A0B0C, Area: 1, Timeline: 0x0D0E0F10, Number: 0x1112131415, Redo: 0x191A1B1C1D1E1F20, Low: 0x0122232425262728}
	b := []byte{
		0xB7, 0x1E,
		1, 2, 3, 4, 5, 6, 7, 8, // the Lsn
		9, 10, 11, 12, // the epoch
		0, 0, // the index
		0, 1, // the count
		0, 29, // bytes
		1,                    // Area
		0x0D, 0x0E, 0x0F, 16, // Timeline
		0, 0, 0, 0x11, 0x12, 0x13, 0x14, 0x15, // Number
		0x19, 0x1A, 0x1B, 0x1C, 0x1D, 0x1E, 0x1F, 0x20, // Redo
		0x01, 0x22, 0x23, 0x24, 0x25, 0x26, 0x27, 0x28, // Low
	}
	b = append(b, make([]byte, 60-len(b))...)
	b = binary.LittleEndian.AppendUint32(b, crc32.ChecksumIEEE(b))
	if got := control.Put(c); !bytes.Equal(got, b) {
		t.Errorf("put as %x, wanted %x", got, b)
	}
	wantGot(t, "these bytes", b, c, api.OK)
}

// P9.1: controls that aren't right.
func TestWrongControls(t *testing.T) {
	for what, c := range wrongOnes() {
		want(t, what+": Right", control.Right(c), false)
		if b := control.Put(c); b != nil {
			t.Errorf("%s: put as %x", what, b)
		}
	}
}

// P9.1: Get of bytes that tell a control that isn't right, or one of numbers that none has.
func TestGetOfWrongControls(t *testing.T) {
	body := bodyOf(plain(4))
	for _, gen := range []uint64{0, mostGen + 1, mostGen + 2, mostLsn, mostLsn + 1, math.MaxInt64, 1 << 63, 1<<63 + 4, math.MaxUint64} {
		wantGot(t, fmt.Sprintf("Gen %d", gen), spelt(gen, 300, 0, 1, body), none, api.ErrForm)
	}
	for area := 2; area < 256; area++ {
		b := bytes.Clone(body)
		b[0] = byte(area)
		wantGot(t, fmt.Sprintf("Area %d", area), spelt(4, 300, 0, 1, b), none, api.ErrForm)
	}
	for _, timeline := range []uint32{0, mostTimeline + 1, mostTimeline + 2, math.MaxUint32} {
		b := bytes.Clone(body)
		binary.BigEndian.PutUint32(b[1:], timeline)
		wantGot(t, fmt.Sprintf("Timeline %d", timeline), spelt(4, 300, 0, 1, b), none, api.ErrForm)
	}
	for _, f := range []struct {
		name string
		at   int
		most uint64
	}{{"Number", 5, mostNumber}, {"Redo", 13, mostPlace}, {"Low", 21, mostPlace}} {
		for _, n := range []uint64{f.most + 1, f.most + 2, math.MaxInt64, 1 << 63, 1<<63 + 6, math.MaxUint64} {
			b := bytes.Clone(body)
			binary.BigEndian.PutUint64(b[f.at:], n)
			wantGot(t, fmt.Sprintf("%s %d", f.name, n), spelt(4, 300, 0, 1, b), none, api.ErrForm)
		}
	}
}

// P9.1: Get of right frames of other kinds.
func TestGetOfOtherFrames(t *testing.T) {
	c := plain(4)
	body := bodyOf(c)
	for _, x := range [][2]uint16{{0, 2}, {1, 2}, {0, 3}, {2, 3}, {0, 257}, {0, 65535}, {65534, 65535}} {
		b := spelt(4, 300, x[0], x[1], body)
		if _, e := frame.Get(b); e != api.OK {
			t.Fatalf("%d of %d is a frame", x[0], x[1])
		}
		wantGot(t, fmt.Sprintf("the %d-th of %d", x[0], x[1]), b, none, api.ErrForm)
	}
	for n := range 41 {
		if n == len(body) {
			continue
		}
		noughts := append(bytes.Clone(body), make([]byte, 40)...)[:n]
		ones := append(bytes.Clone(body), bytes.Repeat([]byte{1}, 40)...)[:n]
		wantGot(t, fmt.Sprintf("%d bytes, noughts behind", n), spelt(4, 300, 0, 1, noughts), none, api.ErrForm)
		wantGot(t, fmt.Sprintf("%d bytes, ones behind", n), spelt(4, 300, 0, 1, ones), none, api.ErrForm)
	}
	wantGot(t, "just its bytes", spelt(4, 300, 0, 1, body), c, api.OK)
}

// P9.1: Get of bytes that are no frame's: layer 6's errors, in its order.
func TestGetOfNoFrame(t *testing.T) {
	good := sectorOf(plain(4))
	for n := range 200 {
		if n != 64 {
			wantGot(t, fmt.Sprintf("%d bytes", n), append(bytes.Clone(good), make([]byte, 136)...)[:n], none, api.ErrForm)
		}
	}
	wantGot(t, "nil", nil, none, api.ErrForm)
	wantGot(t, "two sectors", append(bytes.Clone(good), good...), none, api.ErrForm)
	wantGot(t, "noughts", make([]byte, 64), none, api.ErrForm)
	for bit := range 512 {
		b := bytes.Clone(good)
		b[bit/8] ^= 1 << (bit % 8)
		e := api.ErrSum
		if bit < 16 {
			e = api.ErrForm // it doesn't begin with B71E
		}
		wantGot(t, fmt.Sprintf("bit %d is turned", bit), b, none, e)
	}
	wrong := spelt(0, 300, 0, 2, []byte{2})
	wrong[63] ^= 1
	wantGot(t, "no right control, and a sum that isn't right", wrong, none, api.ErrSum)
	summed := func(b []byte) []byte {
		return binary.LittleEndian.AppendUint32(b[:60:60], crc32.ChecksumIEEE(b[:60]))
	}
	behind := bytes.Clone(good)
	behind[59] = 1
	wantGot(t, "a byte behind the control's", summed(behind), none, api.ErrForm)
	long := bytes.Clone(good)
	long[19] = 41
	wantGot(t, "a frame of 41 bytes", summed(long), none, api.ErrForm)
	index := bytes.Clone(good)
	index[15] = 1
	wantGot(t, "the index 1 of the count 1", summed(index), none, api.ErrForm)
	wantGot(t, "the count 0", spelt(4, 300, 0, 0, bodyOf(plain(4))), none, api.ErrForm)
}

// What is handed in isn't changed, an answer is new memory.
func TestMemory(t *testing.T) {
	c := plain(4)
	b := control.Put(c)
	for i := range b[:cap(b)] {
		b[:cap(b)][i] ^= 255
	}
	if again := control.Put(c); !bytes.Equal(again, sectorOf(c)) {
		t.Errorf("put as %x behind a change of an elder answer", again)
	}
	roomy := append(sectorOf(c), bytes.Repeat([]byte{7}, 64)...)
	was := bytes.Clone(roomy)
	wantGot(t, "with spare room", roomy[:64], c, api.OK)
	wantGot(t, "a part of 63 bytes", roomy[:63], none, api.ErrForm)
	if !bytes.Equal(roomy, was) {
		t.Errorf("handed in as %x, left as %x", was, roomy)
	}
}
