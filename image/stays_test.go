package image_test

import (
	"bytes"
	"fmt"
	"math/rand"
	"slices"
	"testing"

	"breviary/api"
	"breviary/image"
)

// spoil the bytes, and the room behind them.
func spoil(b []byte) {
	b = b[:cap(b)]
	for i := range b {
		b[i] ^= 0x55
	}
}

// roomy is b with room behind it that has bytes in it.
func roomy(b []byte) []byte {
	r := append(make([]byte, 0, len(b)+100), b...)
	for i := len(b); i < cap(r); i++ {
		r[:cap(r)][i] = 77
	}
	return r
}

// P10.3, and what is said of memory everywhere.

func TestADiskStays(t *testing.T) {
	d := made(t, blocks(1, 2, 3))
	one := written(t, d, api.Write{Block: 0, B: block(9)})
	two := written(t, d, api.Write{Block: 2, B: block(8)})
	three := written(t, one, api.Write{Block: 0, B: block(7)}, api.Write{Block: 1, B: block(6)})
	alike := written(t, d)
	four := written(t, alike, api.Write{Block: 1, B: block(5)})
	if got, e := d.With(api.Write{Block: 1, B: block(4)}, api.Write{Block: 1, B: odd(63)}); got != nil || e != api.ErrSize {
		t.Errorf("With: %v, %v", got, e)
	}
	wantDisk(t, "d", d, blocks(1, 2, 3))
	wantDisk(t, "one", one, blocks(9, 2, 3))
	wantDisk(t, "two", two, blocks(1, 2, 8))
	wantDisk(t, "three", three, blocks(7, 6, 3))
	wantDisk(t, "alike", alike, blocks(1, 2, 3))
	wantDisk(t, "four", four, blocks(1, 5, 3))
	made, _ := image.New(2)
	written(t, made, api.Write{Block: 1, B: block(1)})
	other, _ := image.New(2)
	wantDisk(t, "New", made, make([]byte, 128))
	wantDisk(t, "New again", other, make([]byte, 128))
}

func TestWhatIsHandedInIsNeitherKeptNorChanged(t *testing.T) {
	b := roomy(odd(128))
	d := made(t, b)
	if !bytes.Equal(b, odd(128)) || !bytes.Equal(b[:cap(b)][128:], bytes.Repeat([]byte{77}, cap(b)-128)) {
		t.Errorf("From changed its bytes")
	}
	spoil(b)
	wantDisk(t, "From", d, odd(128))

	w := roomy(block(9))
	l := append(make([]api.Write, 0, 3), api.Write{Block: 1, B: w}, api.Write{Block: 0, B: w})
	other := written(t, d, l...)
	if l[0].Block != 1 || l[1].Block != 0 || l[:3][2].B != nil || l[:3][2].Block != 0 || !bytes.Equal(w, block(9)) || !bytes.Equal(w[:cap(w)][64:], bytes.Repeat([]byte{77}, cap(w)-64)) {
		t.Errorf("With changed its writes")
	}
	spoil(w)
	l[0].Block = 0
	wantDisk(t, "With", other, blocks(9, 9))
	wantDisk(t, "the elder one", d, odd(128))
}

func TestRoomBehindIsNotRead(t *testing.T) {
	b := odd(5 * 64)
	wantDisk(t, "From", made(t, b[:128]), odd(128))
	d := written(t, made(t, blocks(1, 2)), api.Write{Block: 0, B: b[:64]})
	wantDisk(t, "With", d, slices.Concat(odd(64), block(2)))
	if got, e := d.With(api.Write{Block: 0, B: b[:63]}); got != nil || e != api.ErrSize {
		t.Errorf("63 bytes with room: %v, %v", got, e)
	}
	if got, e := d.With(append(make([]api.Write, 0, 2), api.Write{Block: 0, B: block(3)}, api.Write{Block: 9})[:1]...); e != api.OK || got == nil {
		t.Errorf("a wrong write in the room: %v", e)
	}
}

func TestAnswersAreNewMemory(t *testing.T) {
	wanted := odd(3 * 64)
	d := made(t, wanted)
	got, _ := d.Get(1)
	all := d.Bytes()
	spoil(got)
	spoil(all)
	spoil(d.Bytes())
	for _, b := range d.All() {
		spoil(b)
	}
	wantDisk(t, "behind spoilt answers", d, wanted)

	got, _ = d.Get(1)
	again, _ := d.Get(1)
	all = d.Bytes()
	spoil(again)
	spoil(all[64:128])
	if !bytes.Equal(got, wanted[64:128]) || !bytes.Equal(d.Bytes(), wanted) {
		t.Errorf("two answers share memory")
	}
	diff := image.Diff(d, nil)
	clear(diff[:cap(diff)])
	if !slices.Equal(image.Diff(d, nil), []int{0, 1, 2}) {
		t.Errorf("Diff keeps its answer")
	}
}

func TestWhatAllTellsIsKept(t *testing.T) {
	wanted := odd(4 * 64)
	d := made(t, wanted)
	var kept [][]byte
	for _, b := range d.All() {
		for _, elder := range kept {
			spoil(elder)
			spoil(elder)
		}
		kept = append(kept, b)
	}
	for k, b := range kept {
		if !bytes.Equal(b, wanted[64*k:64*k+64]) {
			t.Errorf("block %d: %v", k, b)
		}
		_ = append(b, block(3)...)
		spoil(b)
	}
	wantDisk(t, "behind what All told", d, wanted)
	all := d.All()
	for range 2 {
		for _, b := range all {
			spoil(b)
		}
	}
	for k, b := range all {
		if !bytes.Equal(b, wanted[64*k:64*k+64]) {
			t.Errorf("gone through again: block %d: %v", k, b)
		}
	}
}

func TestAppendingToAnAnswerHarmsNone(t *testing.T) {
	wanted := odd(3 * 64)
	d := made(t, wanted)
	b, _ := d.Get(0)
	_ = append(b, block(9)...)
	_ = append(d.Bytes()[:64], block(9)...)
	for _, b := range d.All() {
		_ = append(b, block(9)...)
	}
	wantDisk(t, "behind append", d, wanted)
}

// plain is a disk as the chapter's words tell it: a list of texts.
type plain []string

func (p plain) bytes() []byte {
	var b []byte
	for _, s := range p {
		b = append(b, s...)
	}
	return b
}

// with answers nil and the first error, or the texts that were written over.
func (p plain) with(l []api.Write) (plain, api.Errno) {
	made := slices.Clone(p)
	for _, w := range l {
		switch {
		case w.Block < 0 || w.Block >= len(p):
			return nil, api.ErrBlock
		case len(w.B) != 64:
			return nil, api.ErrSize
		}
		made[w.Block] = string(w.B)
	}
	return made, api.OK
}

func (p plain) diff(q plain) []int {
	var l []int
	for k := range 64 {
		switch {
		case k >= len(p) && k >= len(q):
		case k >= len(p) || k >= len(q) || p[k] != q[k]:
			l = append(l, k)
		}
	}
	return l
}

func randomWrites(r *rand.Rand, blocks int) []api.Write {
	var l []api.Write
	for range r.Intn(6) {
		w := api.Write{Block: r.Intn(blocks), B: block(byte(r.Intn(3)))}
		switch r.Intn(30) {
		case 0:
			w.Block = []int{-1, blocks, 64}[r.Intn(3)]
		case 1:
			w.B = odd([]int{0, 63, 65}[r.Intn(3)])
		case 2:
			w.Block, w.B = blocks, nil
		}
		l = append(l, w)
	}
	return l
}

// Disks are made of others at random; all of them are looked at to the end.
func TestAgainstPlainDisks(t *testing.T) {
	for seed := range int64(60) {
		r := rand.New(rand.NewSource(seed))
		var disks []*image.Disk
		var plains []plain
		for range 4 {
			n := 1 + r.Intn(8)
			b := make([]byte, 64*n)
			if r.Intn(2) == 0 {
				r.Read(b)
			}
			var p plain
			for c := range slices.Chunk(b, 64) {
				p = append(p, string(c))
			}
			disks, plains = append(disks, made(t, b)), append(plains, p)
		}
		for range 40 {
			k := r.Intn(len(disks))
			l := randomWrites(r, len(plains[k]))
			got, e := disks[k].With(l...)
			p, wanted := plains[k].with(l)
			want(t, "With", e, wanted)
			want(t, "With: a disk", got != nil, wanted == api.OK)
			if got != nil && p != nil {
				disks, plains = append(disks, got), append(plains, p)
			}
		}
		for k, d := range disks {
			wantDisk(t, fmt.Sprintf("seed %d, disk %d", seed, k), d, plains[k].bytes())
			m := r.Intn(len(disks))
			wantDiff(t, fmt.Sprintf("seed %d, disks %d and %d", seed, k, m), d, disks[m], plains[k].diff(plains[m])...)
		}
		if t.Failed() {
			t.FailNow()
		}
	}
}
