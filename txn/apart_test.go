package txn_test

import (
	"bytes"
	"maps"
	"math/rand"
	"slices"
	"testing"

	"breviary/api"
	"breviary/txn"
)

// P13.3

func TestNoOtherOneReadsWhatOneWrites(t *testing.T) {
	b := full(t)
	for h := 1; h <= 8; h++ {
		put(t, b, h, h%3, h)
		for other := 1; other <= 8; other++ {
			if other <= h {
				wantWrites(t, "wrote", b, 3, other, write(other%3, other))
			} else {
				wantWrites(t, "wrote nothing yet", b, 3, other)
			}
		}
	}
	end(t, b, 5)
	begin(t, b, 9)
	wantWrites(t, "begun behind", b, 3, 9)
	for _, h := range []int{1, 2, 3, 4, 6, 7, 8} {
		wantWrites(t, "another one has ended", b, 3, h, write(h%3, h))
	}
}

func TestTheSameBlockInSeveral(t *testing.T) {
	b := full(t)
	for h := 8; h >= 1; h-- {
		put(t, b, h, 1, h)
	}
	for h := 1; h <= 8; h++ {
		wantWrites(t, "each its own", b, 3, h, write(1, h))
		put(t, b, h, 1, 10+h)
	}
	for h := 1; h <= 8; h++ {
		wantWrites(t, "each its own, written over", b, 3, h, write(1, 10+h))
		end(t, b, h)
	}
}

func TestBooksSideBySide(t *testing.T) {
	a, b := made(t, 3), made(t, 5)
	begin(t, a, 1)
	begin(t, a, 2)
	put(t, a, 1, 0, 1)
	wantOpen(t, "another book", b)
	wantNone(t, "another book", b, 1)
	begin(t, b, 1)
	wantWrites(t, "another book", b, 5, 1)
	put(t, b, 1, 4, 2)
	end(t, a, 1)
	wantWrites(t, "another book", b, 5, 1, write(4, 2))
	a.Clear()
	wantOpen(t, "another book", b, 1)
	want(t, "its own blocks", a.Write(begin(t, a, 3), 4, block(1)), api.ErrBlock)
}

// beside a book stand the last handle, and by handle and block the numbers that were written.
type beside struct {
	b            *txn.Book
	blocks, last int
	open         map[int]map[int]int
}

func (x *beside) handles() []int {
	return slices.Sorted(maps.Keys(x.open))
}

func (x *beside) begin(t *testing.T) {
	t.Helper()
	if len(x.open) == 8 {
		wantNoBegin(t, "beside", x.b)
		return
	}
	x.last++
	x.open[begin(t, x.b, x.last)] = map[int]int{}
}

func (x *beside) end(t *testing.T, h int) {
	t.Helper()
	if x.open[h] == nil {
		want(t, "End", x.b.End(h), api.ErrHandle)
		return
	}
	end(t, x.b, h)
	delete(x.open, h)
}

func (x *beside) write(t *testing.T, h, k, n, length int) {
	t.Helper()
	data := slices.Concat(block(n), block(n))[:length]
	wanted := api.OK
	switch {
	case x.open[h] == nil:
		wanted = api.ErrHandle
	case k < 0 || k >= x.blocks:
		wanted = api.ErrBlock
	case length != 64:
		wanted = api.ErrSize
	default:
		x.open[h][k] = n
	}
	want(t, "Write", x.b.Write(h, k, data), wanted)
}

func (x *beside) wantAll(t *testing.T) {
	t.Helper()
	wantOpen(t, "beside a plain one", x.b, x.handles()...)
	for h, written := range x.open {
		var l []api.Write
		for _, k := range slices.Sorted(maps.Keys(written)) {
			l = append(l, write(k, written[k]))
		}
		wantWrites(t, "beside a plain one", x.b, x.blocks, h, l...)
	}
}

// Books at random beside plain ones.
func TestBooksBesidePlainOnes(t *testing.T) {
	r := rand.New(rand.NewSource(13))
	for range 100 {
		blocks := 1 + r.Intn(64)
		x := &beside{made(t, blocks), blocks, 0, map[int]map[int]int{}}
		for range 200 {
			h := x.last - 10 + r.Intn(12)
			if open := x.handles(); len(open) > 0 && r.Intn(8) > 0 {
				h = open[r.Intn(len(open))]
			}
			switch r.Intn(80) {
			case 0:
				x.b.Clear()
				clear(x.open)
			case 1, 2, 3, 4, 5, 6, 7, 8:
				x.end(t, h)
			case 9, 10, 11, 12, 13, 14, 15, 16, 17, 18, 19, 20:
				x.begin(t)
			case 21, 22, 23:
				x.write(t, h, r.Intn(blocks), r.Intn(256), r.Intn(129))
			default:
				x.write(t, h, r.Intn(blocks+2)-1, r.Intn(256), 64)
			}
			wantOpen(t, "beside a plain one", x.b, x.handles()...)
		}
		x.wantAll(t)
	}
}

// What is said of memory everywhere.

// spoil the bytes, and the room behind them.
func spoil(b []byte) {
	b = b[:cap(b)]
	for i := range b {
		b[i] ^= 0x55
	}
}

// roomy is b with room behind it that has bytes in it.
func roomy(b []byte) []byte {
	r := append(make([]byte, 0, len(b)+100), b...)
	for i := len(b); i < cap(r); i++ {
		r[:cap(r)][i] = 77
	}
	return r
}

func TestWhatIsHandedInIsNeitherKeptNorChanged(t *testing.T) {
	b := made(t, 3)
	h := begin(t, b, 1)
	data := roomy(block(9))
	for _, k := range []int{2, 0, 2} {
		want(t, "Write", b.Write(h, k, data), api.OK)
		if !bytes.Equal(data, block(9)) || !bytes.Equal(data[:cap(data)][64:], bytes.Repeat([]byte{77}, cap(data)-64)) {
			t.Errorf("Write changed its bytes")
		}
	}
	for _, n := range []int{0, 63, 65} {
		want(t, "with room", b.Write(h, 1, data[:n]), api.ErrSize)
	}
	spoil(data)
	wantWrites(t, "changed afterwards", b, 3, h, write(0, 9), write(2, 9))
	put(t, b, h, 1, 4)
	spoil(data)
	wantWrites(t, "changed again", b, 3, h, write(0, 9), write(1, 4), write(2, 9))
}

func TestAnswersAreNewMemory(t *testing.T) {
	b := made(t, 3)
	for h := 1; h <= 3; h++ {
		begin(t, b, h)
		put(t, b, h, 2, 20+h)
		put(t, b, h, 0, 10+h)
	}
	data, _, _ := b.Read(2, 2)
	again, _, _ := b.Read(2, 2)
	l, _ := b.Writes(2)
	other, _ := b.Writes(2)
	open := b.Open()
	spoil(data)
	_ = append(data, block(1)...)
	want(t, "another Read", bytes.Equal(again, block(22)), true)
	spoil(l[0].B)
	want(t, "a write beside", bytes.Equal(l[1].B, block(22)), true)
	spoil(l[1].B)
	for i := range l[:cap(l)] {
		l[:cap(l)][i] = api.Write{Block: 1}
	}
	for i := range open[:cap(open)] {
		open[:cap(open)][i] = 70
	}
	wantOpen(t, "changed answers", b, 1, 2, 3)
	for h := 1; h <= 3; h++ {
		wantWrites(t, "changed answers", b, 3, h, write(0, 10+h), write(2, 20+h))
	}
	put(t, b, 2, 0, 30)
	put(t, b, 2, 2, 31)
	want(t, "an elder Read", bytes.Equal(again, block(22)), true)
	want(t, "an elder list", len(other) == 2 && bytes.Equal(other[0].B, block(12)) && bytes.Equal(other[1].B, block(22)), true)
	end(t, b, 2)
	want(t, "behind End", bytes.Equal(again, block(22)) && bytes.Equal(other[0].B, block(12)), true)
	begin(t, b, 4)
	wantWrites(t, "one begun behind", b, 3, 4)
}
