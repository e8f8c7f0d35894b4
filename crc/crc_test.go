package crc_test

import (
	"bytes"
	"encoding/binary"
	"hash/crc32"
	"math"
	"math/rand"
	"testing"

	"breviary/api"
	"breviary/crc"
)

// some makes n bytes that are told by n and seed.
func some(n int, seed int64) []byte {
	b := make([]byte, n)
	rand.New(rand.NewSource(seed)).Read(b)
	return b
}

// inRoom is b with spare room behind it that is full of 77.
func inRoom(b []byte) []byte {
	room := append(bytes.Clone(b), bytes.Repeat([]byte{77}, 16)...)
	return room[:len(b)]
}

// wantKept tells whether inRoom's b is still what it was, its spare room too.
func wantKept(t *testing.T, what string, b, was []byte) {
	t.Helper()
	if room := b[:len(b)+16]; !bytes.Equal(room, append(bytes.Clone(was), bytes.Repeat([]byte{77}, 16)...)) {
		t.Errorf("%s changed what was handed in: %x, it was %x", what, room, was)
	}
}

// marked is what Mark must answer for four bytes or more, by the library's sum.
func marked(b []byte) []byte {
	body := bytes.Clone(b[:len(b)-4])
	return binary.LittleEndian.AppendUint32(body, crc32.ChecksumIEEE(body))
}

// P2.1

func TestSumOfKnownBytes(t *testing.T) {
	for _, x := range []struct {
		s   string
		sum uint32
	}{
		{"", 0},
		{"123456789", 0xCBF43926},
		{"a", 0xE8B7BE43},
		{"abc", 0x352441C2},
		{"\x00", 0xD202EF8D},
		{"\x01", 0xA505DF1B},
		{"\x80", 0x3FBA6CAD},
		{"\xff", 0xFF000000},
		{"\x00\x00\x00\x00", 0x2144DF1C},
		{"\xff\xff\xff\xff", 0xFFFFFFFF},
		{"The quick brown fox jumps over the lazy dog", 0x414FA339},
	} {
		if sum := crc.Sum([]byte(x.s)...); sum != x.sum {
			t.Errorf("Sum of %q: %08X, wanted %08X", x.s, sum, x.sum)
		}
		if sum := crc.Join(0, []byte(x.s)); sum != x.sum {
			t.Errorf("Join(0, %q): %08X, wanted %08X", x.s, sum, x.sum)
		}
	}
}

func TestSumTakesBytesOneByOne(t *testing.T) {
	if sum := crc.Sum(); sum != 0 {
		t.Errorf("Sum of none: %08X", sum)
	}
	if sum := crc.Sum(nil...); sum != 0 {
		t.Errorf("Sum of nil: %08X", sum)
	}
	if sum := crc.Sum('1', '2', '3', '4', '5', '6', '7', '8', '9'); sum != 0xCBF43926 {
		t.Errorf("Sum: %08X", sum)
	}
}

// bitwise is the sum as the chapter's words tell it, bit by bit.
func bitwise(b []byte) uint32 {
	rest := uint32(math.MaxUint32)
	for _, x := range b {
		for bit := range 8 {
			rest ^= uint32(x>>bit) & 1
			if rest&1 == 1 {
				rest = rest>>1 ^ 0xEDB88320
			} else {
				rest = rest >> 1
			}
		}
	}
	return ^rest
}

func TestSumIsTheChapters(t *testing.T) {
	for x := range 256 {
		if sum := crc.Sum(byte(x)); sum != bitwise([]byte{byte(x)}) {
			t.Errorf("Sum of %02X: %08X", x, sum)
		}
	}
	for n := range 300 {
		b := some(n, int64(n))
		if sum := crc.Sum(b...); sum != bitwise(b) || sum != crc32.ChecksumIEEE(b) {
			t.Errorf("Sum of %d bytes: %08X, wanted %08X", n, sum, bitwise(b))
		}
	}
	b := some(api.MostBytes, 1)
	if sum := crc.Sum(b...); sum != bitwise(b) {
		t.Errorf("Sum of %d bytes: %08X, wanted %08X", len(b), sum, bitwise(b))
	}
}

func TestJoinAtEachPlace(t *testing.T) {
	b := some(150, 2)
	for at := range len(b) + 1 {
		if sum := crc.Join(crc.Sum(b[:at]...), b[at:]); sum != crc32.ChecksumIEEE(b) {
			t.Errorf("Join at %d: %08X, wanted %08X", at, sum, crc32.ChecksumIEEE(b))
		}
	}
	var sum uint32
	for i := range b {
		sum = crc.Join(sum, b[i:i+1])
	}
	if sum != crc.Sum(b...) {
		t.Errorf("Join byte by byte: %08X, wanted %08X", sum, crc.Sum(b...))
	}
}

func TestJoinToAnySum(t *testing.T) {
	for _, was := range []uint32{0, 1, 1 << 31, 0xEDB88320, 0xCBF43926, math.MaxUint32 - 1, math.MaxUint32} {
		if sum := crc.Join(was, nil); sum != was {
			t.Errorf("Join(%08X, nil): %08X", was, sum)
		}
		if sum := crc.Join(was, []byte{}); sum != was {
			t.Errorf("Join(%08X, none): %08X", was, sum)
		}
		for n := range 70 {
			b := some(n, int64(n)+3)
			if sum := crc.Join(was, b); sum != crc32.Update(was, crc32.IEEETable, b) {
				t.Errorf("Join(%08X, %d bytes): %08X", was, n, sum)
			}
		}
	}
}

// P2.2

func TestMarkOfKnownBytes(t *testing.T) {
	for _, x := range []struct{ b, marked string }{
		{"123456789....", "123456789\x26\x39\xF4\xCB"},
		{"a????", "a\x43\xBE\xB7\xE8"},
		{"????", "\x00\x00\x00\x00"},
		{"\xff????", "\xff\x00\x00\x00\xff"},
	} {
		if b := crc.Mark([]byte(x.b)); string(b) != x.marked {
			t.Errorf("Mark of %q: %q, wanted %q", x.b, b, x.marked)
		}
		if !crc.Good([]byte(x.marked)) {
			t.Errorf("%q isn't good", x.marked)
		}
		if crc.Good([]byte(x.b)) {
			t.Errorf("%q is good", x.b)
		}
	}
}

func TestMarkOfEachLength(t *testing.T) {
	for n := 4; n < 200; n++ {
		b := some(n, int64(n)+4)
		got := crc.Mark(b)
		if !bytes.Equal(got, marked(b)) {
			t.Errorf("Mark of %d bytes: %x, wanted %x", n, got, marked(b))
		}
		if !crc.Good(got) {
			t.Errorf("%d marked bytes aren't good", n)
		}
		if again := crc.Mark(got); !bytes.Equal(again, got) {
			t.Errorf("marked twice, %d bytes: %x, wanted %x", n, again, got)
		}
	}
	b := some(api.MostBytes, 5)
	if got := crc.Mark(b); !bytes.Equal(got, marked(b)) || !crc.Good(got) {
		t.Errorf("Mark of %d bytes", len(b))
	}
}

func TestMarkDoesNotLookAtTheLastFour(t *testing.T) {
	b := some(20, 6)
	was := crc.Mark(b)
	for _, last := range []string{"\x00\x00\x00\x00", "\xff\xff\xff\xff", "abcd"} {
		copy(b[16:], last)
		if got := crc.Mark(b); !bytes.Equal(got, was) {
			t.Errorf("Mark over %q: %x, wanted %x", last, got, was)
		}
	}
}

func TestFewerThanFour(t *testing.T) {
	for _, s := range []string{"", "a", "ab", "abc", "\x00", "\x00\x00", "\x00\x00\x00", "\xff\xff\xff"} {
		if b := crc.Mark([]byte(s)); string(b) != s {
			t.Errorf("Mark of %q: %q", s, b)
		}
		if crc.Good([]byte(s)) || crc.Good(crc.Mark([]byte(s))) {
			t.Errorf("%q is good", s)
		}
	}
	if b := crc.Mark(nil); len(b) != 0 {
		t.Errorf("Mark of nil: %x", b)
	}
	if crc.Good(nil) {
		t.Errorf("nil is good")
	}
}

func TestSpareRoomIsNotRead(t *testing.T) {
	whole := crc.Mark(some(12, 7))
	for n := range len(whole) {
		if crc.Good(whole[:n]) {
			t.Errorf("the first %d of %d marked bytes are good", n, len(whole))
		}
	}
	if b := crc.Mark([]byte("abcdef")[:3]); string(b) != "abc" {
		t.Errorf("Mark: %q", b)
	}
}

func TestWrongMarks(t *testing.T) {
	b := some(16, 8)
	sum := crc32.ChecksumIEEE(b)
	for what, wrong := range map[string][]byte{
		"the greatest byte first": binary.BigEndian.AppendUint32(bytes.Clone(b), sum),
		"bits turned":             binary.LittleEndian.AppendUint32(bytes.Clone(b), ^sum),
		"one more":                binary.LittleEndian.AppendUint32(bytes.Clone(b), sum+1),
		"noughts":                 append(bytes.Clone(b), 0, 0, 0, 0),
		"the sum ahead":           append(binary.LittleEndian.AppendUint32(nil, sum), b...),
		"a byte behind":           append(crc.Mark(append(bytes.Clone(b), 0, 0, 0, 0)), 0),
		"a byte ahead":            append([]byte{0}, crc.Mark(append(bytes.Clone(b), 0, 0, 0, 0))...),
		"none":                    {0, 0, 0, 1},
		"a sector of noughts":     make([]byte, api.Sector),
		"a sector of ones":        bytes.Repeat([]byte{0xff}, api.Sector),
	} {
		if crc.Good(wrong) {
			t.Errorf("%s: %x is good", what, wrong)
		}
	}
	if !crc.Good([]byte{0, 0, 0, 0}) {
		t.Errorf("none and its sum aren't good")
	}
}

// P2.3

func TestOneTurnedBitIsTold(t *testing.T) {
	for n := 4; n <= 2*api.Sector; n++ {
		for _, b := range [][]byte{make([]byte, n), bytes.Repeat([]byte{0xff}, n), some(n, int64(n)+9)} {
			b = crc.Mark(b)
			for bit := range 8 * n {
				b[bit/8] ^= 1 << (bit % 8)
				if crc.Good(b) {
					t.Fatalf("%d bytes, bit %d is turned: good", n, bit)
				}
				b[bit/8] ^= 1 << (bit % 8)
			}
			if !crc.Good(b) {
				t.Fatalf("%d bytes, all bits turned back: not good", n)
			}
		}
	}
}

func TestOneTurnedBitOfManyIsTold(t *testing.T) {
	b := crc.Mark(some(api.MostBytes, 10))
	for bit := 0; bit < 8*len(b); bit += 4999 {
		b[bit/8] ^= 1 << (bit % 8)
		if crc.Good(b) {
			t.Fatalf("bit %d is turned: good", bit)
		}
		b[bit/8] ^= 1 << (bit % 8)
	}
}

// DOC.md's rules 5 and 7

func TestWhatIsHandedInStays(t *testing.T) {
	for _, n := range []int{0, 1, 3, 4, 5, api.Sector} {
		was := some(n, int64(n)+11)
		b := inRoom(was)
		crc.Sum(b...)
		wantKept(t, "Sum", b, was)
		crc.Join(7, b)
		wantKept(t, "Join", b, was)
		crc.Mark(b)
		wantKept(t, "Mark", b, was)
		crc.Good(b)
		wantKept(t, "Good", b, was)
	}
}

func TestMarkAnswersNewMemory(t *testing.T) {
	for _, n := range []int{0, 1, 3, 4, 5, api.Sector} {
		was := some(n, int64(n)+12)
		b := inRoom(was)
		got := crc.Mark(b)
		wanted := bytes.Clone(got)
		room := got[:cap(got)]
		for i := range room {
			room[i] = 99
		}
		wantKept(t, "the answer", b, was)
		if again := crc.Mark(b); !bytes.Equal(again, wanted) {
			t.Errorf("Mark of %d bytes, again: %x, wanted %x", n, again, wanted)
		}
		got = crc.Mark(b)
		clear(b)
		if !bytes.Equal(got, wanted) {
			t.Errorf("the answer for %d bytes is changed with what was handed in", n)
		}
	}
}
