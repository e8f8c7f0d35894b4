package frame_test

import (
	"bytes"
	"encoding/binary"
	"fmt"
	"hash/crc32"
	"iter"
	"math"
	"math/rand"
	"slices"
	"testing"

	"breviary/api"
	"breviary/frame"
)

const (
	mostLsn   = 1<<62 - 1
	mostEpoch = 1<<32 - 1
	mostCount = 65535
	mostBody  = mostCount * 40
)

// some makes n bytes that are told by n and seed, none of them nought.
func some(n int, seed int64) []byte {
	b := make([]byte, n)
	r := rand.New(rand.NewSource(seed))
	for i := range b {
		b[i] = byte(1 + r.Intn(255))
	}
	return b
}

// inRoom is b with spare room behind it that is full of 77.
func inRoom(b []byte) []byte {
	room := append(bytes.Clone(b), bytes.Repeat([]byte{77}, 80)...)
	return room[:len(b)]
}

// wantKept tells whether inRoom's b is still what it was, its spare room too.
func wantKept(t *testing.T, what string, b, was []byte) {
	t.Helper()
	if room := b[:len(b)+80]; !bytes.Equal(room, append(bytes.Clone(was), bytes.Repeat([]byte{77}, 80)...)) {
		t.Errorf("%s changed what was handed in: %x, it was %x", what, room, was)
	}
}

// summed is b, 60 bytes, with their sum behind them, by the library.
func summed(b []byte) []byte {
	return binary.LittleEndian.AppendUint32(bytes.Clone(b), crc32.ChecksumIEEE(b))
}

// spelt is a sector by the library, with fields of any kind, and a count of bytes that needn't be that of b.
func spelt(begin uint16, lsn uint64, epoch uint32, index, count, length uint16, b []byte) []byte {
	s := binary.BigEndian.AppendUint16(nil, begin)
	s = binary.BigEndian.AppendUint64(s, lsn)
	s = binary.BigEndian.AppendUint32(s, epoch)
	s = binary.BigEndian.AppendUint16(s, index)
	s = binary.BigEndian.AppendUint16(s, count)
	s = binary.BigEndian.AppendUint16(s, length)
	s = append(s, b...)
	return summed(append(s, make([]byte, 60-len(s))...))
}

// sector of a right frame, by the library.
func sector(f api.Frame) []byte {
	return spelt(0xB71E, uint64(f.Lsn), uint32(f.Epoch), uint16(f.Index), uint16(f.Count), uint16(len(f.B)), f.B)
}

func sameFrame(a, b api.Frame) bool {
	return a.Lsn == b.Lsn && a.Epoch == b.Epoch && a.Index == b.Index && a.Count == b.Count && bytes.Equal(a.B, b.B)
}

func wantGet(t *testing.T, what string, b []byte, f api.Frame) {
	t.Helper()
	if got, e := frame.Get(b); e != api.OK || !sameFrame(got, f) {
		t.Errorf("%s: %v %v, wanted %v", what, got, e, f)
	}
}

func wantNoFrame(t *testing.T, what string, b []byte, wanted api.Errno) {
	t.Helper()
	if got, e := frame.Get(b); e != wanted || got.B != nil || !sameFrame(got, api.Frame{}) {
		t.Errorf("%s: %v %v, wanted %v", what, got, e, wanted)
	}
}

// source brings sectors, and tells what was asked of it.
type source struct {
	sectors [][]byte
	asked   int // how many it brought
	begun   int // how often it was gone through
}

func (s *source) seq() iter.Seq[[]byte] {
	return func(yield func([]byte) bool) {
		s.begun++
		for _, b := range s.sectors {
			s.asked++
			if !yield(b) {
				return
			}
		}
	}
}

func wantGather(t *testing.T, what string, lsn int, sectors [][]byte, body []byte, count int) {
	t.Helper()
	s := &source{sectors: sectors}
	got, n, e := frame.Gather(lsn, s.seq())
	if e != api.OK || n != count || !bytes.Equal(got, body) {
		t.Errorf("%s: %d bytes of %d frames, %v, wanted %d of %d", what, len(got), n, e, len(body), count)
	}
	if s.asked != count || s.begun != 1 {
		t.Errorf("%s: %d sectors were asked for, in %d times, wanted %d", what, s.asked, s.begun, count)
	}
}

// wantNone tells whether Gather answers the error behind so many sectors, and nothing beside it.
func wantNone(t *testing.T, what string, lsn int, sectors [][]byte, wanted api.Errno, asked int) {
	t.Helper()
	s := &source{sectors: sectors}
	got, n, e := frame.Gather(lsn, s.seq())
	if e != wanted || n != 0 || len(got) != 0 {
		t.Errorf("%s: %d bytes of %d frames, %v, wanted %v", what, len(got), n, e, wanted)
	}
	if s.asked != asked {
		t.Errorf("%s: %d sectors were asked for, wanted %d", what, s.asked, asked)
	}
}

// framesOf a body, by the document's words.
func framesOf(lsn, epoch int, body []byte) []api.Frame {
	count := max(1, (len(body)+39)/40)
	var l []api.Frame
	for i := range count {
		l = append(l, api.Frame{Lsn: lsn + i, Epoch: epoch, Index: i, Count: count, B: body[40*i : min(len(body), 40*i+40)]})
	}
	return l
}

func sectorsOf(frames []api.Frame) [][]byte {
	var l [][]byte
	for _, f := range frames {
		l = append(l, sector(f))
	}
	return l
}

// with is the frames, but for the one at a place, that is changed.
func with(frames []api.Frame, at int, change func(*api.Frame)) [][]byte {
	l := slices.Clone(frames)
	change(&l[at])
	return sectorsOf(l)
}

// P6.1

func rightOnes() map[string]api.Frame {
	return map[string]api.Frame{
		"all at the least":        {Count: 1},
		"an empty B":              {Count: 1, B: []byte{}},
		"Lsn 1":                   {Lsn: 1, Count: 1},
		"Lsn at the most":         {Lsn: mostLsn, Count: 1},
		"Lsn one below":           {Lsn: mostLsn - 1, Count: 1},
		"Epoch 1":                 {Epoch: 1, Count: 1},
		"Epoch at the most":       {Epoch: mostEpoch, Count: 1},
		"Count at the most":       {Count: mostCount},
		"Index below Count":       {Index: 1, Count: 2},
		"Index 0 of 2":            {Count: 2},
		"Index at the most":       {Index: mostCount - 1, Count: mostCount},
		"B of a byte":             {Count: 1, B: []byte{7}},
		"B of a nought":           {Count: 1, B: []byte{0}},
		"B of 39":                 {Count: 1, B: some(39, 1)},
		"B of 40":                 {Count: 1, B: some(40, 2)},
		"B of 40 noughts":         {Count: 1, B: make([]byte, 40)},
		"B of 10, one in the mid": {Index: 1, Count: 3, B: some(10, 3)},
		"all at the most":         {Lsn: mostLsn, Epoch: mostEpoch, Index: mostCount - 1, Count: mostCount, B: bytes.Repeat([]byte{255}, 40)},
		"some":                    {Lsn: 0x0102030405060708, Epoch: 0x090A0B0C, Index: 0x0D0E, Count: 0x0F10, B: []byte("breviary")},
	}
}

func wrongOnes() map[string]api.Frame {
	return map[string]api.Frame{
		"zero":                     {},
		"Lsn below":                {Lsn: -1, Count: 1},
		"Lsn far below":            {Lsn: math.MinInt, Count: 1},
		"Lsn above":                {Lsn: mostLsn + 1, Count: 1},
		"Lsn far above":            {Lsn: math.MaxInt, Count: 1},
		"Epoch below":              {Epoch: -1, Count: 1},
		"Epoch far below":          {Epoch: math.MinInt, Count: 1},
		"Epoch above":              {Epoch: mostEpoch + 1, Count: 1},
		"Epoch far above":          {Epoch: math.MaxInt, Count: 1},
		"Count 0":                  {B: []byte{1}},
		"Count below":              {Count: -1},
		"Count below, Index too":   {Index: -2, Count: -1},
		"Count far below":          {Count: math.MinInt},
		"Count far below, Index 1": {Index: 1, Count: math.MinInt},
		"Count above":              {Count: mostCount + 1},
		"Count far above":          {Count: math.MaxInt},
		"Index below":              {Index: -1, Count: 1},
		"Index far below":          {Index: math.MinInt, Count: 1},
		"Index at Count":           {Index: 1, Count: 1},
		"Index at the most Count":  {Index: mostCount, Count: mostCount},
		"Index above Count":        {Index: 3, Count: 2},
		"Index far above":          {Index: math.MaxInt, Count: mostCount},
		"B of 41":                  {Count: 1, B: some(41, 4)},
		"B of 44":                  {Count: 1, B: some(44, 5)},
		"B of 65536":               {Count: 1, B: some(65536, 6)},
		"B of 65576":               {Count: 1, B: some(65576, 7)},
	}
}

func TestRight(t *testing.T) {
	for what, f := range rightOnes() {
		if !frame.Right(f) {
			t.Errorf("%s isn't right", what)
		}
	}
	for what, f := range wrongOnes() {
		if frame.Right(f) {
			t.Errorf("%s is right", what)
		}
	}
}

func TestPut(t *testing.T) {
	for what, f := range rightOnes() {
		if b := frame.Put(f); !bytes.Equal(b, sector(f)) {
			t.Errorf("%s: %x, wanted %x", what, b, sector(f))
		}
		wantGet(t, what, frame.Put(f), f)
	}
	for what, f := range wrongOnes() {
		if b := frame.Put(f); len(b) != 0 {
			t.Errorf("%s: %x, wanted none", what, b)
		}
	}
}

func TestPutOfKnownBytes(t *testing.T) {
	b := frame.Put(api.Frame{Lsn: 0x0102030405060708, Epoch: 0x090A0B0C, Index: 0x0D0E, Count: 0x0F10, B: []byte("breviary")})
	head := "\xB7\x1E\x01\x02\x03\x04\x05\x06\x07\x08\x09\x0A\x0B\x0C\x0D\x0E\x0F\x10\x00\x08breviary"
	if len(b) != 64 || string(b[:len(head)]) != head || !bytes.Equal(b[len(head):60], make([]byte, 60-len(head))) {
		t.Fatalf("%x", b)
	}
	if sum := binary.LittleEndian.Uint32(b[60:]); sum != crc32.ChecksumIEEE(b[:60]) {
		t.Errorf("the sum is %08X", sum)
	}
}

func TestEachLengthOfB(t *testing.T) {
	for n := range 41 {
		f := api.Frame{Lsn: 3, Epoch: 2, Index: 1, Count: 4, B: some(n, int64(n))}
		if b := frame.Put(f); !bytes.Equal(b, sector(f)) {
			t.Errorf("Put with %d bytes: %x", n, b)
		}
		wantGet(t, fmt.Sprintf("%d bytes", n), sector(f), f)
		f.B = make([]byte, n)
		wantGet(t, fmt.Sprintf("%d noughts", n), sector(f), f)
	}
}

func TestGetOfOtherLengths(t *testing.T) {
	b := sector(api.Frame{Lsn: 5, Count: 1, B: some(40, 8)})
	for n := range 64 {
		wantNoFrame(t, fmt.Sprintf("%d bytes", n), b[:n], api.ErrForm)
	}
	wantNoFrame(t, "nil", nil, api.ErrForm)
	wantNoFrame(t, "65 bytes", append(bytes.Clone(b), 0), api.ErrForm)
	wantNoFrame(t, "65 bytes, one ahead", append([]byte{0}, b...), api.ErrForm)
	wantNoFrame(t, "two sectors", append(bytes.Clone(b), b...), api.ErrForm)
	for _, n := range []int{24, 63, 65, 128} {
		other := make([]byte, n-4)
		copy(other, b[:20])
		wantNoFrame(t, fmt.Sprintf("%d bytes with their sum", n), summed(other), api.ErrForm)
	}
}

func TestGetOfAnotherBeginning(t *testing.T) {
	f := api.Frame{Lsn: 5, Epoch: 1, Index: 0, Count: 1, B: some(7, 9)}
	for _, begin := range []uint16{0, 0x1EB7, 0xB71F, 0xB71C, 0xB61E, 0x371E, 0xFFFF, 0x1E00, 0x00B7} {
		good := spelt(begin, 5, 1, 0, 1, 7, f.B)
		wantNoFrame(t, fmt.Sprintf("%04X with a right sum", begin), good, api.ErrForm)
		good[63] ^= 1
		wantNoFrame(t, fmt.Sprintf("%04X with a wrong sum", begin), good, api.ErrForm)
	}
	wantNoFrame(t, "noughts", make([]byte, 64), api.ErrForm)
	wantNoFrame(t, "ones", bytes.Repeat([]byte{255}, 64), api.ErrForm)
}

func TestGetOfAWrongSum(t *testing.T) {
	for what, f := range rightOnes() {
		b := sector(f)
		for bit := range 512 {
			b[bit/8] ^= 1 << (bit % 8)
			wanted := api.ErrSum
			if bit < 16 {
				wanted = api.ErrForm
			}
			wantNoFrame(t, fmt.Sprintf("%s, bit %d is turned", what, bit), b, wanted)
			b[bit/8] ^= 1 << (bit % 8)
		}
		wantGet(t, what+", all bits turned back", b, f)
	}
	b := sector(api.Frame{Count: 1})
	wantNoFrame(t, "no sum", append(b[:60:60], 0, 0, 0, 0), api.ErrSum)
	slices.Reverse(b[60:])
	wantNoFrame(t, "the greatest byte first", b, api.ErrSum)
}

func TestGetNamesTheSumAheadOfTheRest(t *testing.T) {
	b := spelt(0xB71E, 1<<62, 0, 5, 5, 41, nil)
	wantNoFrame(t, "no frame with a right sum", b, api.ErrForm)
	b[60] ^= 1
	wantNoFrame(t, "no frame with a wrong sum", b, api.ErrSum)
}

func TestGetOfNoRightFrame(t *testing.T) {
	full := some(40, 10)
	for what, b := range map[string][]byte{
		"41 bytes":            spelt(0xB71E, 1, 1, 0, 1, 41, full),
		"44 bytes":            spelt(0xB71E, 1, 1, 0, 1, 44, full),
		"256 bytes":           spelt(0xB71E, 1, 1, 0, 1, 256, full),
		"65535 bytes":         spelt(0xB71E, 1, 1, 0, 1, 65535, nil),
		"bytes behind none":   spelt(0xB71E, 1, 1, 0, 1, 0, []byte{1}),
		"bytes behind 39":     spelt(0xB71E, 1, 1, 0, 1, 39, full),
		"Count 0":             spelt(0xB71E, 1, 1, 0, 0, 3, full[:3]),
		"Index at Count":      spelt(0xB71E, 1, 1, 1, 1, 3, full[:3]),
		"Index above Count":   spelt(0xB71E, 1, 1, 7, 2, 3, full[:3]),
		"Index at the most":   spelt(0xB71E, 1, 1, 65535, 65535, 3, full[:3]),
		"Index above nothing": spelt(0xB71E, 1, 1, 1, 0, 3, full[:3]),
		"Lsn above":           spelt(0xB71E, 1<<62, 1, 0, 1, 3, full[:3]),
		"Lsn one above that":  spelt(0xB71E, 1<<62+1, 1, 0, 1, 3, full[:3]),
		"Lsn 2^63 - 1":        spelt(0xB71E, 1<<63-1, 1, 0, 1, 3, full[:3]),
		"Lsn 2^63":            spelt(0xB71E, 1<<63, 1, 0, 1, 3, full[:3]),
		"Lsn 2^64 - 1":        spelt(0xB71E, math.MaxUint64, 1, 0, 1, 3, full[:3]),
		"nothing else":        spelt(0xB71E, 0, 0, 0, 0, 0, nil),
	} {
		wantNoFrame(t, what, b, api.ErrForm)
	}
}

func TestGetOfAByteBehindB(t *testing.T) {
	for n := range 40 {
		for at := n; at < 40; at++ {
			b := make([]byte, 40)
			copy(b, some(n, int64(n)))
			b[at] = 1
			wantNoFrame(t, fmt.Sprintf("%d bytes, another at %d", n, at), spelt(0xB71E, 1, 1, 0, 1, uint16(n), b), api.ErrForm)
		}
	}
}

// Sectors that differ in few bits from right ones, with right sums: got is just what is put.
func TestGetIsTheOtherWayOfPut(t *testing.T) {
	r := rand.New(rand.NewSource(11))
	got := 0
	for range 20000 {
		f := api.Frame{Lsn: r.Intn(1 << 62), Epoch: r.Intn(1 << 32), Count: 1 + r.Intn(4), B: make([]byte, r.Intn(41))}
		f.Index = r.Intn(f.Count)
		b := sector(f)[:60]
		for range r.Intn(3) {
			bit := 16 + r.Intn(60*8-16)
			b[bit/8] ^= 1 << (bit % 8)
		}
		b = summed(b)
		g, e := frame.Get(b)
		if e == api.OK {
			got++
			if !frame.Right(g) || !bytes.Equal(frame.Put(g), b) {
				t.Fatalf("%x is got as %v", b, g)
			}
		} else if e != api.ErrForm {
			t.Fatalf("%x: %v", b, e)
		}
	}
	if got == 0 || got == 20000 {
		t.Errorf("%d are got", got)
	}
}

// P6.2

func TestSectors(t *testing.T) {
	for _, c := range []struct{ n, wanted int }{
		{math.MinInt, 0}, {-41, 0}, {-40, 0}, {-1, 0},
		{0, 1}, {1, 1}, {39, 1}, {40, 1}, {41, 2}, {79, 2}, {80, 2}, {81, 3}, {120, 3}, {121, 4},
		{mostBody - 41, 65534}, {mostBody - 40, 65534}, {mostBody - 39, 65535}, {mostBody - 1, 65535}, {mostBody, 65535},
		{mostBody + 1, 0}, {mostBody + 40, 0}, {1 << 40, 0}, {math.MaxInt - 39, 0}, {math.MaxInt - 38, 0}, {math.MaxInt, 0},
	} {
		if n := frame.Sectors(c.n); n != c.wanted {
			t.Errorf("Sectors of %d: %d, wanted %d", c.n, n, c.wanted)
		}
	}
	for n := range 5000 {
		if got, wanted := frame.Sectors(n), len(framesOf(0, 0, make([]byte, n))); got != wanted {
			t.Errorf("Sectors of %d: %d, wanted %d", n, got, wanted)
		}
	}
}

func TestSpread(t *testing.T) {
	for n := range 250 {
		body := some(n, int64(n))
		got, wanted := frame.Spread(9, 4, body), slices.Concat(sectorsOf(framesOf(9, 4, body))...)
		if !bytes.Equal(got, wanted) {
			t.Errorf("%d bytes: %x, wanted %x", n, got, wanted)
		}
		if len(got) != 64*frame.Sectors(n) {
			t.Errorf("%d bytes: %d, wanted %d sectors", n, len(got), frame.Sectors(n))
		}
	}
	one := sector(api.Frame{Lsn: 9, Epoch: 4, Count: 1})
	if got := frame.Spread(9, 4, nil); !bytes.Equal(got, one) {
		t.Errorf("nil: %x", got)
	}
	if got := frame.Spread(9, 4, []byte{}); !bytes.Equal(got, one) {
		t.Errorf("no bytes: %x", got)
	}
}

func TestSpreadOfTheMost(t *testing.T) {
	body := some(mostBody+40, 12)
	s := frame.Spread(mostLsn-mostCount+1, mostEpoch, body[:mostBody])
	if len(s) != 64*mostCount {
		t.Fatalf("%d bytes", len(s))
	}
	for _, i := range []int{0, 1, 65533, 65534} {
		f := api.Frame{Lsn: mostLsn - mostCount + 1 + i, Epoch: mostEpoch, Index: i, Count: mostCount, B: body[40*i : 40*i+40]}
		wantGet(t, fmt.Sprintf("the frame %d", i), s[64*i:64*i+64], f)
	}
	wantGather(t, "the most", mostLsn-mostCount+1, slices.Collect(slices.Chunk(s, 64)), body[:mostBody], mostCount)
	if s := frame.Spread(0, 0, body[:mostBody-1]); len(s) != 64*mostCount {
		t.Errorf("one less: %d bytes", len(s))
	}
	for _, n := range []int{mostBody + 1, mostBody + 40} {
		if s := frame.Spread(0, 0, body[:n]); len(s) != 0 {
			t.Errorf("of %d: %d bytes, wanted none", n, len(s))
		}
	}
}

func TestSpreadAtTheEdges(t *testing.T) {
	for _, c := range []struct{ lsn, epoch, n, wanted int }{
		{0, 0, 41, 2}, {0, mostEpoch, 41, 2},
		{mostLsn, 0, 0, 1}, {mostLsn, 0, 40, 1}, {mostLsn - 1, 0, 41, 2}, {mostLsn - 1, 0, 80, 2}, {mostLsn - 2, mostEpoch, 120, 3},
		{mostLsn, 0, 41, 0}, {mostLsn - 1, 0, 81, 0}, {mostLsn - 2, 0, 121, 0},
		{-1, 0, 0, 0}, {-1, 0, 41, 0}, {-2, 0, 400, 0}, {math.MinInt, 0, 0, 0},
		{mostLsn + 1, 0, 0, 0}, {mostLsn + 1, 0, 41, 0}, {math.MaxInt, 0, 0, 0}, {math.MaxInt, 0, 400, 0},
		{0, -1, 0, 0}, {0, -1, 41, 0}, {0, math.MinInt, 0, 0}, {0, mostEpoch + 1, 0, 0}, {0, mostEpoch + 1, 41, 0}, {0, math.MaxInt, 41, 0},
	} {
		body := some(c.n, 13)
		s := frame.Spread(c.lsn, c.epoch, body)
		if len(s) != 64*c.wanted {
			t.Errorf("Spread(%d, %d, %d bytes): %d bytes, wanted %d sectors", c.lsn, c.epoch, c.n, len(s), c.wanted)
		}
		if c.wanted > 0 {
			wantGather(t, "an edge", c.lsn, slices.Collect(slices.Chunk(s, 64)), body, c.wanted)
		}
	}
}

func TestGatherAsksForNoMoreThanTheFrames(t *testing.T) {
	for n := range 250 {
		body := some(n, int64(n))
		l := sectorsOf(framesOf(9, 4, body))
		count := len(l)
		for what, behind := range map[string][]byte{
			"its first one":  l[0],
			"the next one":   sector(api.Frame{Lsn: 9 + count, Epoch: 4, Count: 1}),
			"one that fits":  sector(api.Frame{Lsn: 9 + count, Epoch: 4, Index: count, Count: count + 1, B: []byte{1}}),
			"noughts":        make([]byte, 64),
			"nothing":        nil,
			"a spoilt frame": append(bytes.Clone(l[0][:63]), ^l[0][63]),
		} {
			wantGather(t, fmt.Sprintf("%d bytes, and %s", n, what), 9, append(slices.Clone(l), behind), body, count)
		}
	}
}

func TestGatherOfSectorsThatEndTooSoon(t *testing.T) {
	for _, n := range []int{0, 40, 41, 100, 400} {
		l := sectorsOf(framesOf(9, 4, some(n, 14)))
		for most := range l {
			wantNone(t, fmt.Sprintf("%d of %d", most, len(l)), 9, l[:most], api.ErrForm, most)
		}
	}
}

func TestGatherOfAnotherLsn(t *testing.T) {
	for _, n := range []int{0, 40, 100} {
		l := sectorsOf(framesOf(9, 4, some(n, 15)))
		for _, lsn := range []int{0, 8, 10, 11, mostLsn} {
			wantNone(t, fmt.Sprintf("%d bytes of the Lsn %d", n, lsn), lsn, l, api.ErrForm, 1)
		}
	}
}

func TestGatherOfAWrongLsn(t *testing.T) {
	l := sectorsOf(framesOf(0, 0, some(100, 16)))
	for _, lsn := range []int{math.MinInt, -2, -1, mostLsn + 1, mostLsn + 2, math.MaxInt} {
		wantNone(t, fmt.Sprintf("the Lsn %d", lsn), lsn, l, api.ErrForm, 0)
		s := &source{sectors: l}
		if frame.Gather(lsn, s.seq()); s.begun != 0 {
			t.Errorf("the Lsn %d: the sectors are gone through", lsn)
		}
		if b, n, e := frame.Gather(lsn, nil); len(b) != 0 || n != 0 || e != api.ErrForm {
			t.Errorf("the Lsn %d without sectors: %x %d %v", lsn, b, n, e)
		}
	}
}

func TestGatherBeginsWithTheIndexNought(t *testing.T) {
	l := sectorsOf(framesOf(9, 4, some(120, 17)))
	wantNone(t, "the second one", 10, l[1:], api.ErrForm, 1)
	wantNone(t, "the last one", 11, l[2:], api.ErrForm, 1)
}

func TestGatherOfOthersInBetween(t *testing.T) {
	frames := framesOf(9, 4, some(200, 18))
	for at := range frames {
		for what, change := range map[string]func(*api.Frame){
			"Lsn above":   func(f *api.Frame) { f.Lsn++ },
			"Lsn below":   func(f *api.Frame) { f.Lsn-- },
			"Index above": func(f *api.Frame) { f.Index, f.Count = f.Index+1, f.Count+1 },
			"Epoch above": func(f *api.Frame) { f.Epoch++ },
			"Epoch below": func(f *api.Frame) { f.Epoch-- },
			"Count above": func(f *api.Frame) { f.Count++ },
		} {
			asked := at + 1
			if at == 0 && (what == "Epoch above" || what == "Epoch below" || what == "Count above") {
				asked = 2 // the first one tells the others' epoch and count
			}
			wantNone(t, fmt.Sprintf("%s at %d", what, at), 9, with(frames, at, change), api.ErrForm, asked)
		}
		if at > 0 {
			wantNone(t, fmt.Sprintf("Index below at %d", at), 9, with(frames, at, func(f *api.Frame) { f.Index-- }), api.ErrForm, at+1)
		}
		if at > 0 && at < 4 {
			wantNone(t, fmt.Sprintf("Count below at %d", at), 9, with(frames, at, func(f *api.Frame) { f.Count-- }), api.ErrForm, at+1)
		}
	}
	l := sectorsOf(frames)
	wantNone(t, "one twice", 9, [][]byte{l[0], l[1], l[1], l[2], l[3], l[4]}, api.ErrForm, 3)
	wantNone(t, "one is missing", 9, [][]byte{l[0], l[1], l[3], l[4]}, api.ErrForm, 3)
	wantNone(t, "two changed about", 9, [][]byte{l[0], l[2], l[1], l[3], l[4]}, api.ErrForm, 2)
}

func TestGatherOfTooFewBytes(t *testing.T) {
	frames := framesOf(9, 4, some(120, 19))
	for n := range 40 {
		for at := range 2 {
			wantNone(t, fmt.Sprintf("%d bytes at %d", n, at), 9, with(frames, at, func(f *api.Frame) { f.B = f.B[:n] }), api.ErrForm, at+1)
		}
		if n > 0 {
			l := with(frames, 2, func(f *api.Frame) { f.B = f.B[:n] })
			wantGather(t, fmt.Sprintf("%d bytes at last", n), 9, l, some(120, 19)[:80+n], 3)
		}
	}
	wantNone(t, "none at last", 9, with(frames, 2, func(f *api.Frame) { f.B = nil }), api.ErrForm, 3)
}

func TestGatherOfWhatIsNoFrame(t *testing.T) {
	frames := framesOf(9, 4, some(120, 20))
	for at := range frames {
		l := sectorsOf(frames)
		good := l[at]
		for what, c := range map[string]struct {
			b []byte
			e api.Errno
		}{
			"nil":                  {nil, api.ErrForm},
			"63 bytes":             {good[:63], api.ErrForm},
			"65 bytes":             {append(bytes.Clone(good), 0), api.ErrForm},
			"two sectors":          {append(bytes.Clone(good), good...), api.ErrForm},
			"noughts":              {make([]byte, 64), api.ErrForm},
			"a spoilt byte":        {append(bytes.Clone(good[:30]), append([]byte{^good[30]}, good[31:]...)...), api.ErrSum},
			"a spoilt sum":         {append(bytes.Clone(good[:63]), ^good[63]), api.ErrSum},
			"Count 0":              {spelt(0xB71E, uint64(9+at), 4, uint16(at), 0, 40, frames[at].B), api.ErrForm},
			"41 bytes":             {spelt(0xB71E, uint64(9+at), 4, uint16(at), 3, 41, frames[at].B), api.ErrForm},
			"spoilt, another Lsn":  {append(sector(api.Frame{Lsn: 77, Count: 1})[:63:63], 1), api.ErrSum},
			"spoilt, another one":  {append(bytes.Clone(l[(at+1)%3][:63]), ^l[(at+1)%3][63]), api.ErrSum},
			"another beginning":    {append([]byte{0}, good[1:]...), api.ErrForm},
			"frame with no room":   {good[:20], api.ErrForm},
			"a sector of all ones": {bytes.Repeat([]byte{255}, 64), api.ErrForm},
		} {
			l[at] = c.b
			wantNone(t, fmt.Sprintf("%s at %d", what, at), 9, l, c.e, at+1)
		}
	}
}

func TestGatherEndsAtTheFirstError(t *testing.T) {
	l := with(framesOf(9, 4, some(120, 21)), 0, func(f *api.Frame) { f.B = f.B[:39] })
	l[1][63] ^= 1
	wantNone(t, "too few bytes, then a spoilt one", 9, l, api.ErrForm, 1)
	l = with(framesOf(9, 4, some(120, 21)), 2, func(f *api.Frame) { f.Epoch++ })
	l[1][63] ^= 1
	wantNone(t, "a spoilt one, then another epoch", 9, l, api.ErrSum, 2)
}

func TestGatherOfNoSequence(t *testing.T) {
	for _, lsn := range []int{0, 9, mostLsn} {
		if b, n, e := frame.Gather(lsn, nil); len(b) != 0 || n != 0 || e != api.ErrForm {
			t.Errorf("nil: %x %d %v", b, n, e)
		}
		wantNone(t, "none", lsn, nil, api.ErrForm, 0)
	}
}

func TestGatherAtTheLastLsn(t *testing.T) {
	l := [][]byte{sector(api.Frame{Lsn: mostLsn, Count: 2, B: some(40, 22)}), spelt(0xB71E, mostLsn+1, 0, 1, 2, 1, []byte{1})}
	wantNone(t, "the second frame's Lsn is too great", mostLsn, l, api.ErrForm, 2)
}

// P6.3

func TestWhatIsSpreadIsGathered(t *testing.T) {
	r := rand.New(rand.NewSource(23))
	for i := range 300 {
		body := make([]byte, r.Intn(1000))
		r.Read(body)
		lsn, epoch := r.Intn(mostLsn-100), r.Intn(1<<32)
		l := slices.Collect(slices.Chunk(frame.Spread(lsn, epoch, body), 64))
		wantGather(t, fmt.Sprintf("the body %d", i), lsn, l, body, frame.Sectors(len(body)))
	}
}

func TestAnotherEpochIsNotGathered(t *testing.T) {
	body := some(200, 24)
	for _, other := range []int{0, 3, 5, mostEpoch} {
		elder := slices.Collect(slices.Chunk(frame.Spread(9, other, body), 64))
		for at := range elder {
			l := slices.Collect(slices.Chunk(frame.Spread(9, 4, body), 64))
			l[at] = elder[at]
			wantNone(t, fmt.Sprintf("the epoch %d at %d", other, at), 9, l, api.ErrForm, max(2, at+1))
		}
	}
}

func TestASpoiltBitIsNotGathered(t *testing.T) {
	s := frame.Spread(9, 4, some(100, 25))
	for bit := range 8 * len(s) {
		s[bit/8] ^= 1 << (bit % 8)
		if b, n, e := frame.Gather(9, slices.Chunk(s, 64)); len(b) != 0 || n != 0 || e != api.ErrSum && (bit%512 >= 16 || e != api.ErrForm) {
			t.Fatalf("bit %d is turned: %x %d %v", bit, b, n, e)
		}
		s[bit/8] ^= 1 << (bit % 8)
	}
}

// DOC.md's rules 1, 5 and 7, and that no call panics

func TestGatherOfSequencesThatGoOn(t *testing.T) {
	body := some(100, 26)
	l := sectorsOf(framesOf(9, 4, body))
	rude := func(sectors ...[]byte) iter.Seq[[]byte] {
		return func(yield func([]byte) bool) {
			for _, b := range sectors {
				yield(b)
			}
		}
	}
	if b, n, e := frame.Gather(9, rude(append(slices.Clone(l), l...)...)); !bytes.Equal(b, body) || n != 3 || e != api.OK {
		t.Errorf("behind the last one: %x %d %v", b, n, e)
	}
	if b, n, e := frame.Gather(9, rude(l[1], l[0], l[1], l[2])); len(b) != 0 || n != 0 || e != api.ErrForm {
		t.Errorf("behind an error: %x %d %v", b, n, e)
	}
}

func TestGatherOfSequencesThatPanic(t *testing.T) {
	body := some(100, 27)
	l := sectorsOf(framesOf(9, 4, body))
	for most := range 4 {
		b, n, e := frame.Gather(9, func(yield func([]byte) bool) {
			for _, s := range l[:most] {
				yield(s)
			}
			panic("a sequence's own")
		})
		if most < 3 && (len(b) != 0 || n != 0 || e != api.ErrForm) || most == 3 && (!bytes.Equal(b, body) || n != 3 || e != api.OK) {
			t.Errorf("behind %d: %x %d %v", most, b, n, e)
		}
	}
}

func TestGatherHandsNothingOutForLater(t *testing.T) {
	l := sectorsOf(framesOf(9, 4, some(100, 28)))
	for most := range 4 {
		var kept func([]byte) bool
		frame.Gather(9, func(yield func([]byte) bool) {
			kept = yield
			for _, s := range l[:most] {
				yield(s)
			}
		})
		if kept(l[0]) {
			t.Errorf("behind %d: more is asked for when the call has answered", most)
		}
	}
}

func TestGatherOfOneBufferAgainAndAgain(t *testing.T) {
	body := some(390, 29)
	l := sectorsOf(framesOf(9, 4, body))
	buffer := make([]byte, 64)
	b, n, e := frame.Gather(9, func(yield func([]byte) bool) {
		for _, s := range l {
			copy(buffer, s)
			if !yield(buffer) {
				return
			}
			clear(buffer)
		}
	})
	if !bytes.Equal(b, body) || n != 10 || e != api.OK {
		t.Errorf("%x %d %v", b, n, e)
	}
}

func TestWhatIsHandedInStays(t *testing.T) {
	for _, n := range []int{0, 1, 40, 41, 100} {
		was := some(n, int64(n))
		b := inRoom(was)
		f := api.Frame{Lsn: 9, Epoch: 4, Count: 1, B: b}
		frame.Right(f)
		frame.Put(f)
		wantKept(t, "Put", b, was)
		frame.Spread(9, 4, b)
		wantKept(t, "Spread", b, was)
	}
	wasOne := sector(api.Frame{Lsn: 9, Epoch: 4, Count: 1, B: some(20, 30)})
	one := inRoom(wasOne)
	frame.Get(one)
	wantKept(t, "Get", one, wasOne)
	was := slices.Concat(sectorsOf(framesOf(9, 4, some(100, 31)))...)
	b := inRoom(was)
	frame.Gather(9, func(yield func([]byte) bool) {
		for i := range 3 {
			if !yield(b[64*i : 64*i+64]) {
				return
			}
		}
	})
	wantKept(t, "Gather", b, was)
}

// fill all of an answer's memory, its spare room too.
func fill(b []byte) {
	b = b[:cap(b)]
	for i := range b {
		b[i] = 99
	}
}

func TestAnswersAreNewMemory(t *testing.T) {
	for _, n := range []int{0, 1, 39, 40} {
		was := some(n, int64(n))
		b := inRoom(was)
		f := api.Frame{Lsn: 9, Epoch: 4, Count: 1, B: b}
		fill(frame.Put(f))
		wantKept(t, "Put's answer", b, was)
		fill(frame.Spread(9, 4, b))
		wantKept(t, "Spread's answer", b, was)
		wasSector := sector(f)
		s := inRoom(wasSector)
		got, _ := frame.Get(s)
		fill(got.B)
		wantKept(t, "Get's answer", s, wasSector)
		body, _, _ := frame.Gather(9, slices.Values([][]byte{s}))
		fill(body)
		wantKept(t, "Gather's answer", s, wasSector)
		wantGet(t, "behind all", s, f)
		got, _ = frame.Get(s)
		body, _, _ = frame.Gather(9, slices.Values([][]byte{s}))
		clear(s)
		if !bytes.Equal(got.B, was) || !bytes.Equal(body, was) {
			t.Errorf("an answer of %d bytes is changed with what was handed in", n)
		}
	}
}
