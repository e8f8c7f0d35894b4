package pack_test

import (
	"bytes"
	"encoding/binary"
	"math"
	"math/rand"
	"slices"
	"testing"

	"breviary/api"
	"breviary/pack"
)

const mostText = 65535

// greatest tells the greatest number that goes into a width.
func greatest(width int) int {
	if width == 8 {
		return math.MaxInt64
	}
	return 1<<(8*width) - 1
}

// spelt tells n's bytes of a width, by the library.
func spelt(n, width int) []byte {
	return binary.BigEndian.AppendUint64(nil, uint64(n))[8-width:]
}

// text tells a text's bytes, by the library.
func text(b []byte) []byte {
	return append(binary.BigEndian.AppendUint16(nil, uint16(len(b))), b...)
}

// some makes n bytes that are told by n and seed.
func some(n int, seed int64) []byte {
	b := make([]byte, n)
	rand.New(rand.NewSource(seed)).Read(b)
	return b
}

// inRoom is b with spare room behind it that is full of 77.
func inRoom(b []byte) []byte {
	room := append(bytes.Clone(b), bytes.Repeat([]byte{77}, 16)...)
	return room[:len(b)]
}

// wantKept tells whether inRoom's b is still what it was, its spare room too.
func wantKept(t *testing.T, what string, b, was []byte) {
	t.Helper()
	if room := b[:len(b)+16]; !bytes.Equal(room, append(bytes.Clone(was), bytes.Repeat([]byte{77}, 16)...)) {
		t.Errorf("%s changed what was handed in: %x, it was %x", what, room, was)
	}
}

func want(t *testing.T, what string, got, wanted any) {
	t.Helper()
	if got != wanted {
		t.Errorf("%s: %v, wanted %v", what, got, wanted)
	}
}

func wantBytes(t *testing.T, what string, got, wanted []byte) {
	t.Helper()
	if !bytes.Equal(got, wanted) {
		t.Errorf("%s: %d bytes %.40x, wanted %d: %.40x", what, len(got), got, len(wanted), wanted)
	}
	if cap(got) != len(got) {
		t.Errorf("%s: there is room of %d behind %d bytes", what, cap(got)-len(got), len(got))
	}
}

func written(t *testing.T, p *pack.Pen, wanted []byte) {
	t.Helper()
	wantBytes(t, "Bytes", p.Bytes(), wanted)
}

func wantScan(t *testing.T, s *pack.Scan, left int, e api.Errno) {
	t.Helper()
	want(t, "Left", s.Left(), left)
	want(t, "Err", s.Err(), e)
}

// wantSpent tells whether a scan behind an error tells nothing more, and stays.
func wantSpent(t *testing.T, s *pack.Scan, left int) {
	t.Helper()
	for range 2 {
		wantScan(t, s, left, api.ErrForm)
		for width := -1; width <= 10; width++ {
			want(t, "Number behind an error", s.Number(width), 0)
		}
		for _, most := range []int{-1, 0, 1, mostText, math.MaxInt} {
			wantBytes(t, "Text behind an error", s.Text(most), nil)
		}
		want(t, "Noughts behind an error", s.Noughts(), false)
		wantScan(t, s, left, api.ErrForm)
	}
}

// P3.1

func TestPenAtFirst(t *testing.T) {
	var p pack.Pen
	written(t, &p, nil)
	for _, n := range []int{math.MinInt, -1, 0, 1, 2, 64, math.MaxInt} {
		wantBytes(t, "Padded", p.Padded(n), nil)
	}
	want(t, "Number", p.Number(300, 2), true)
	written(t, &p, []byte{1, 0x2C})
}

func TestPenNumberOfEachWidth(t *testing.T) {
	for width := 1; width <= 8; width++ {
		numbers := []int{0, 1, 2, 127, 128, 255, greatest(width), greatest(width) - 1, greatest(width)/2 + 1}
		for below := 1; below < width; below++ {
			numbers = append(numbers, greatest(below)-1, greatest(below), greatest(below)+1, greatest(below)+2)
		}
		for _, n := range numbers {
			var p pack.Pen
			want(t, "Number", p.Number(n, width), true)
			written(t, &p, spelt(n, width))
		}
	}
}

func TestPenNumberOfKnownBytes(t *testing.T) {
	for _, x := range []struct {
		n, width int
		s        string
	}{
		{300, 2, "\x01\x2C"},
		{0x0102, 2, "\x01\x02"},
		{0x0102, 3, "\x00\x01\x02"},
		{0x010203, 3, "\x01\x02\x03"},
		{0x0102030405060708, 8, "\x01\x02\x03\x04\x05\x06\x07\x08"},
		{1, 7, "\x00\x00\x00\x00\x00\x00\x01"},
		{1, 8, "\x00\x00\x00\x00\x00\x00\x00\x01"},
		{math.MaxInt64, 8, "\x7f\xff\xff\xff\xff\xff\xff\xff"},
		{1<<56 - 1, 7, "\xff\xff\xff\xff\xff\xff\xff"},
	} {
		var p pack.Pen
		want(t, "Number", p.Number(x.n, x.width), true)
		written(t, &p, []byte(x.s))
	}
}

func TestPenNumberRefused(t *testing.T) {
	var p pack.Pen
	want(t, "Number", p.Number(7, 1), true)
	refused := func(n, width int) {
		t.Helper()
		if p.Number(n, width) {
			t.Errorf("Number(%d, %d): true", n, width)
		}
		written(t, &p, []byte{7})
	}
	for _, width := range []int{math.MinInt, -8, -1, 0, 9, 10, 16, 64, math.MaxInt} {
		for _, n := range []int{math.MinInt, -1, 0, 1, math.MaxInt} {
			refused(n, width)
		}
	}
	for width := 1; width <= 8; width++ {
		for _, n := range []int{math.MinInt, math.MinInt + 1, -256, -2, -1} {
			refused(n, width)
		}
		if width < 8 {
			for _, n := range []int{greatest(width) + 1, greatest(width) + 2, greatest(width) * 2, math.MaxInt - 1, math.MaxInt} {
				refused(n, width)
			}
		}
	}
	want(t, "Number", p.Number(8, 1), true)
	written(t, &p, []byte{7, 8})
}

func TestPenText(t *testing.T) {
	for _, n := range []int{0, 1, 2, 255, 256, 257, mostText - 1, mostText} {
		b := some(n, 1)
		var p pack.Pen
		want(t, "Text", p.Text(b), true)
		written(t, &p, text(b))
	}
	var p pack.Pen
	want(t, "Text", p.Text(nil), true)
	want(t, "Text", p.Text([]byte{}), true)
	want(t, "Text", p.Text([]byte("ab\x00")), true)
	written(t, &p, []byte("\x00\x00\x00\x00\x00\x03ab\x00"))
}

func TestPenTextRefused(t *testing.T) {
	var p pack.Pen
	want(t, "Text", p.Text([]byte("a")), true)
	for _, n := range []int{mostText + 1, mostText + 2, 2 * (mostText + 1), 1 << 20} {
		want(t, "Text", p.Text(make([]byte, n)), false)
		written(t, &p, []byte("\x00\x01a"))
	}
	want(t, "Text", p.Text(make([]byte, mostText)), true)
	written(t, &p, append([]byte("\x00\x01a"), text(make([]byte, mostText))...))
}

func TestPadded(t *testing.T) {
	for length := range 70 {
		var p pack.Pen
		b := bytes.Repeat([]byte{9}, length)
		for range length {
			p.Number(9, 1)
		}
		for _, n := range []int{math.MinInt, -64, -1, 0} {
			wantBytes(t, "Padded", p.Padded(n), b)
		}
		for n := 1; n <= 140; n++ {
			whole := bytes.Clone(b)
			for len(whole)%n != 0 {
				whole = append(whole, 0)
			}
			wantBytes(t, "Padded", p.Padded(n), whole)
		}
		written(t, &p, b)
	}
}

func TestPaddedIsNotWritten(t *testing.T) {
	var p pack.Pen
	p.Text([]byte("abc"))
	wantBytes(t, "Padded", p.Padded(4), []byte("\x00\x03abc\x00\x00\x00"))
	wantBytes(t, "Padded", p.Padded(5), []byte("\x00\x03abc"))
	written(t, &p, []byte("\x00\x03abc"))
	p.Number(1, 1)
	wantBytes(t, "Padded", p.Padded(4), []byte("\x00\x03abc\x01\x00\x00"))
}

func TestPaddedByMuch(t *testing.T) {
	var p pack.Pen
	p.Number(1, 1)
	b := p.Padded(1 << 20)
	want(t, "length", len(b), 1<<20)
	want(t, "the first", b[0], byte(1))
	want(t, "noughts", bytes.Count(b, []byte{0}), 1<<20-1)
	for _, n := range []int{1 << 31, 1 << 40, math.MaxInt - 1, math.MaxInt} {
		p.Padded(n) // beyond what the document promises: no panic
	}
	written(t, &p, []byte{1})
}

// P3.2

func TestScanNumberOfEachWidth(t *testing.T) {
	b := []byte{0x12, 0x34, 0x56, 0x78, 0x9A, 0xBC, 0xDE, 0xF0, 0x11}
	numbers := []int{0x12, 0x1234, 0x123456, 0x12345678, 0x123456789A, 0x123456789ABC, 0x123456789ABCDE, 0x123456789ABCDEF0}
	for i, n := range numbers {
		width := i + 1
		s := pack.New(b)
		want(t, "Number", s.Number(width), n)
		wantScan(t, s, len(b)-width, api.OK)
		s = pack.New(b[:width])
		want(t, "Number", s.Number(width), n)
		wantScan(t, s, 0, api.OK)
	}
}

func TestScanNumberThatIsNotWhollyThere(t *testing.T) {
	for width := 1; width <= 8; width++ {
		for length := range width {
			for _, x := range []byte{0, 1, 0xff} {
				s := pack.New(bytes.Repeat([]byte{x}, length))
				want(t, "Number", s.Number(width), 0)
				wantSpent(t, s, length)
			}
		}
	}
}

func TestScanNumberOfNoWidth(t *testing.T) {
	for _, width := range []int{math.MinInt, -8, -1, 0, 9, 10, 16, math.MaxInt} {
		for _, length := range []int{0, 1, 8, 9, 20} {
			s := pack.New(make([]byte, length))
			want(t, "Number", s.Number(width), 0)
			wantSpent(t, s, length)
		}
	}
}

func TestScanGreatNumbers(t *testing.T) {
	for _, n := range []uint64{1<<63 - 2, 1<<63 - 1} {
		s := pack.New(binary.BigEndian.AppendUint64(nil, n))
		want(t, "Number", s.Number(8), int(n))
		wantScan(t, s, 0, api.OK)
	}
	for _, n := range []uint64{1 << 63, 1<<63 + 1, 1<<63 + 1<<62, math.MaxUint64 - 1, math.MaxUint64} {
		s := pack.New(append(binary.BigEndian.AppendUint64(nil, n), 1))
		want(t, "Number", s.Number(8), 0)
		wantSpent(t, s, 9)
		s = pack.New(binary.BigEndian.AppendUint64(nil, n))
		want(t, "Number of seven bytes", s.Number(7), int(n>>8))
		wantScan(t, s, 1, api.OK)
	}
}

func TestScanText(t *testing.T) {
	for _, n := range []int{0, 1, 2, 255, 256, 257, mostText - 1, mostText} {
		b := some(n, 2)
		for _, most := range []int{n, n + 1, mostText, mostText + 1, math.MaxInt} {
			if most < n {
				continue
			}
			s := pack.New(append(text(b), 5))
			wantBytes(t, "Text", s.Text(most), b)
			wantScan(t, s, 1, api.OK)
			want(t, "Number", s.Number(1), 5)
		}
	}
}

func TestScanTextLongerThanMost(t *testing.T) {
	for _, n := range []int{0, 1, 2, 255, 256, 257, mostText - 1, mostText} {
		for _, most := range []int{math.MinInt, -1, 0, n - 2, n - 1} {
			if most >= n {
				continue
			}
			s := pack.New(text(some(n, 3)))
			wantBytes(t, "Text", s.Text(most), nil)
			wantSpent(t, s, n+2)
		}
	}
}

func TestScanTextThatIsNotWhollyThere(t *testing.T) {
	for _, n := range []int{0, 1, 2, 3, 255, 256, mostText} {
		whole := text(some(n, 4))
		for _, length := range []int{0, 1, 2, 3, len(whole) - 2, len(whole) - 1} {
			if length < 0 || length >= len(whole) {
				continue
			}
			s := pack.New(whole[:length])
			wantBytes(t, "Text", s.Text(mostText), nil)
			wantSpent(t, s, length)
		}
	}
}

func TestErrorBehindWhatWasTold(t *testing.T) {
	s := pack.New([]byte("\x01\x2C\x00\x01a\x00\x02bc\x00"))
	want(t, "Number", s.Number(2), 300)
	wantBytes(t, "Text", s.Text(1), []byte("a"))
	wantBytes(t, "Text", s.Text(1), nil)
	wantSpent(t, s, 5)
}

func TestNoughts(t *testing.T) {
	for _, x := range []struct {
		b       string
		noughts bool
	}{
		{"", true}, {"\x00", true}, {"\x00\x00\x00", true},
		{"\x01", false}, {"\x00\x00\x01", false}, {"\x01\x00\x00", false}, {"\x00\x80\x00", false}, {"0", false},
	} {
		s := pack.New([]byte(x.b))
		for range 2 {
			want(t, "Noughts", s.Noughts(), x.noughts)
			wantScan(t, s, len(x.b), api.OK)
		}
	}
}

func TestNoughtsOfWhatIsLeft(t *testing.T) {
	s := pack.New([]byte("\x07\x00\x01a\x00\x00"))
	want(t, "Noughts", s.Noughts(), false)
	want(t, "Number", s.Number(1), 7)
	want(t, "Noughts", s.Noughts(), false)
	wantBytes(t, "Text", s.Text(1), []byte("a"))
	want(t, "Noughts", s.Noughts(), true)
	want(t, "Number", s.Number(2), 0)
	want(t, "Noughts", s.Noughts(), true)
	wantScan(t, s, 0, api.OK)
	want(t, "Number", s.Number(1), 0)
	wantSpent(t, s, 0)
}

func TestScanOfNone(t *testing.T) {
	for _, b := range [][]byte{nil, {}} {
		s := pack.New(b)
		wantScan(t, s, 0, api.OK)
		want(t, "Noughts", s.Noughts(), true)
		wantBytes(t, "Text", s.Text(0), nil)
		wantSpent(t, s, 0)
	}
}

func TestSpareRoomIsNotRead(t *testing.T) {
	whole := []byte("\x00\x02ab")
	s := pack.New(whole[:3])
	wantBytes(t, "Text", s.Text(2), nil)
	wantSpent(t, s, 3)
	s = pack.New(whole[:1])
	want(t, "Noughts", s.Noughts(), true)
	want(t, "Number", s.Number(2), 0)
	wantSpent(t, s, 1)
}

// P3.3

// thing is a text, or, of a width above 0, a number.
type thing struct {
	n, width int
	b        []byte
}

func someThing(r *rand.Rand) thing {
	width := r.Intn(9)
	if width > 0 {
		return thing{n: int(r.Uint64()>>1) & greatest(width), width: width}
	}
	b := make([]byte, r.Intn(300))
	r.Read(b)
	return thing{b: b}
}

func (x thing) spell() []byte {
	if x.width > 0 {
		return spelt(x.n, x.width)
	}
	return text(x.b)
}

func (x thing) write(t *testing.T, p *pack.Pen) {
	t.Helper()
	if x.width > 0 {
		want(t, "Number", p.Number(x.n, x.width), true)
	} else {
		want(t, "Text", p.Text(x.b), true)
	}
}

func (x thing) read(t *testing.T, s *pack.Scan) {
	t.Helper()
	if x.width > 0 {
		want(t, "Number", s.Number(x.width), x.n)
	} else {
		wantBytes(t, "Text", s.Text(len(x.b)), x.b)
	}
}

func TestWhatIsWrittenIsToldAgain(t *testing.T) {
	r := rand.New(rand.NewSource(5))
	for range 300 {
		var p pack.Pen
		var things []thing
		var wanted []byte
		for range r.Intn(20) {
			x := someThing(r)
			x.write(t, &p)
			things = append(things, x)
			wanted = append(wanted, x.spell()...)
		}
		written(t, &p, wanted)
		padded := p.Padded(64)
		want(t, "padded by fewer than 64", len(padded)%64 == 0 && len(padded)-len(wanted) < 64, true)
		s := pack.New(padded)
		left := len(padded)
		for _, x := range things {
			x.read(t, s)
			left -= len(x.spell())
			wantScan(t, s, left, api.OK)
		}
		want(t, "Noughts", s.Noughts(), true)
		want(t, "Left", s.Left(), len(padded)-len(wanted))
	}
}

func TestEdgesAreToldAgain(t *testing.T) {
	var p pack.Pen
	for width := 1; width <= 8; width++ {
		for _, n := range []int{0, 1, greatest(width) - 1, greatest(width)} {
			want(t, "Number", p.Number(n, width), true)
		}
	}
	want(t, "Text", p.Text(some(mostText, 6)), true)
	want(t, "Text", p.Text(nil), true)
	s := pack.New(p.Bytes())
	for width := 1; width <= 8; width++ {
		for _, n := range []int{0, 1, greatest(width) - 1, greatest(width)} {
			want(t, "Number", s.Number(width), n)
		}
	}
	wantBytes(t, "Text", s.Text(mostText), some(mostText, 6))
	wantBytes(t, "Text", s.Text(0), nil)
	wantScan(t, s, 0, api.OK)
}

// the sentence in brackets

func TestNilPen(t *testing.T) {
	var p *pack.Pen
	for _, x := range []int{math.MinInt, -1, 0, 1, 8, 9, math.MaxInt} {
		want(t, "Number", p.Number(0, x), false)
		want(t, "Number", p.Number(x, 8), false)
		wantBytes(t, "Padded", p.Padded(x), nil)
	}
	for _, b := range [][]byte{nil, {}, []byte("a"), make([]byte, mostText+1)} {
		want(t, "Text", p.Text(b), false)
	}
	wantBytes(t, "Bytes", p.Bytes(), nil)
}

func TestNilScan(t *testing.T) {
	var s *pack.Scan
	for range 2 {
		wantScan(t, s, 0, api.ErrNil)
		for _, x := range []int{math.MinInt, -1, 0, 1, 8, 9, math.MaxInt} {
			want(t, "Number", s.Number(x), 0)
			wantBytes(t, "Text", s.Text(x), nil)
		}
		want(t, "Noughts", s.Noughts(), false)
	}
}

// DOC.md's rules 5 and 7

func TestWhatIsHandedInStays(t *testing.T) {
	for _, n := range []int{0, 1, 3, 64} {
		was := some(n, 7)
		b := inRoom(was)
		var p pack.Pen
		p.Text(b)
		p.Text(b)
		wantKept(t, "Text", b, was)
		wanted := append(text(was), text(was)...)
		clear(b)
		written(t, &p, wanted)

		b = inRoom(was)
		s := pack.New(b)
		s.Number(1)
		s.Text(mostText)
		s.Noughts()
		wantKept(t, "a scan", b, was)
	}
	b := []byte("\x00\x03abc\x00\x01")
	s := pack.New(b)
	copy(b, bytes.Repeat([]byte{1}, len(b)))
	wantBytes(t, "Text", s.Text(3), []byte("abc"))
	want(t, "Number", s.Number(2), 1)
}

// overwrite spoils an answer, its spare room too.
func overwrite(b []byte) {
	for i := range b[:cap(b)] {
		b[:cap(b)][i] = 99
	}
	_ = append(b, 99, 99, 99, 99)
}

func TestAnswersAreNewMemory(t *testing.T) {
	var p pack.Pen
	p.Text([]byte("abc"))
	overwrite(p.Bytes())
	overwrite(p.Padded(0))
	overwrite(p.Padded(5))
	overwrite(p.Padded(64))
	written(t, &p, []byte("\x00\x03abc"))
	elder := [][]byte{p.Bytes(), p.Padded(0), p.Padded(5)}
	for range 100 {
		p.Number(8, 8)
	}
	for _, b := range elder {
		wantBytes(t, "an elder answer", b, []byte("\x00\x03abc"))
	}

	b := []byte("\x00\x01a\x00\x02bc\x00\x01d")
	was := bytes.Clone(b)
	s := pack.New(b)
	overwrite(s.Text(1))
	kept := s.Text(2)
	overwrite(s.Text(1))
	wantBytes(t, "an elder answer", kept, []byte("bc"))
	wantScan(t, s, 0, api.OK)
	if !slices.Equal(b, was) {
		t.Errorf("what was handed in is changed by answers: %x", b)
	}
}

func TestPensAndScansAreApart(t *testing.T) {
	var p, q pack.Pen
	p.Number(1, 1)
	q.Number(2, 1)
	p.Number(3, 1)
	written(t, &p, []byte{1, 3})
	written(t, &q, []byte{2})
	b := []byte{1, 2, 3}
	s, u := pack.New(b), pack.New(b)
	want(t, "Number", s.Number(2), 0x0102)
	want(t, "Number", u.Number(9), 0)
	wantScan(t, s, 1, api.OK)
	wantScan(t, u, 3, api.ErrForm)
	want(t, "Number", s.Number(1), 3)
}
