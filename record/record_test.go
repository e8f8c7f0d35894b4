package record_test

import (
	"bytes"
	"cmp"
	"encoding/binary"
	"fmt"
	"math"
	"math/rand"
	"slices"
	"testing"

	"breviary/api"
	"breviary/record"
)

const (
	mostTimeline = 1<<31 - 1
	mostCommit   = 1 << 40
)

// block is 64 bytes that are told by seed; high ones and noughts are among them.
func block(seed int64) []byte {
	b := make([]byte, 64)
	rand.New(rand.NewSource(seed)).Read(b)
	b[0], b[63] = 0, 255
	return b
}

// writes of the blocks, each with bytes of its own.
func writes(blocks ...int) []api.Write {
	var l []api.Write
	for i, n := range blocks {
		l = append(l, api.Write{Block: n, B: block(int64(1000*i + n))})
	}
	return l
}

// first n blocks, from 0 on.
func first(n int) []int {
	var l []int
	for i := range n {
		l = append(l, i)
	}
	return l
}

func head(timeline, number int) api.Record {
	return api.Record{Kind: 1, Timeline: timeline, Number: number}
}

func commit(timeline, number int, l ...api.Write) api.Record {
	return api.Record{Kind: 3, Timeline: timeline, Number: number, Writes: l}
}

// spelt is bytes by the library, of fields of any kind, and with a count that needn't be that of the writes.
func spelt(kind byte, timeline uint32, number uint64, count uint16, l []api.Write) []byte {
	b := binary.BigEndian.AppendUint32([]byte{kind}, timeline)
	b = binary.BigEndian.AppendUint64(b, number)
	b = binary.BigEndian.AppendUint16(b, count)
	for _, w := range l {
		b = append(binary.BigEndian.AppendUint16(b, uint16(w.Block)), w.B...)
	}
	return b
}

// bytesOf a right record, by the library.
func bytesOf(r api.Record) []byte {
	switch r.Kind {
	case 1:
		return spelt(1, uint32(r.Timeline), uint64(r.Number), 0, nil)[:13]
	case 2:
		return []byte{2}
	}
	return spelt(3, uint32(r.Timeline), uint64(r.Number), uint16(len(r.Writes)), r.Writes)
}

// alike: the test's own view of all parts being alike.
func alike(a, b api.Record) bool {
	return a.Kind == b.Kind && a.Timeline == b.Timeline && a.Number == b.Number && alikeWrites(a.Writes, b.Writes)
}

func alikeWrites(a, b []api.Write) bool {
	if len(a) != len(b) {
		return false
	}
	for i, w := range a {
		if w.Block != b[i].Block || string(w.B) != string(b[i].B) {
			return false
		}
	}
	return true
}

// cloned is r with memory of its own.
func cloned(r api.Record) api.Record {
	r.Writes = clonedWrites(r.Writes)
	return r
}

func clonedWrites(l []api.Write) []api.Write {
	var c []api.Write
	for _, w := range l {
		c = append(c, api.Write{Block: w.Block, B: bytes.Clone(w.B)})
	}
	return c
}

func rightOnes() []api.Record {
	l := []api.Record{
		{Kind: 2},
		{Kind: 2, Writes: []api.Write{}},
		{Kind: 1, Timeline: 1, Writes: []api.Write{}},
		{Kind: 3, Timeline: 1, Number: 1, Writes: []api.Write{}},
		commit(1, 1, api.Write{Block: 5, B: make([]byte, 64)}),
		commit(1, 1, api.Write{Block: 5, B: bytes.Repeat([]byte{255}, 64)}),
		commit(7, 300, writes(0)...),
		commit(7, 300, writes(63)...),
		commit(7, 300, writes(0, 63)...),
		commit(7, 300, writes(3, 4, 40)...),
		commit(7, 300, writes(first(63)...)...),
		commit(mostTimeline, mostCommit, writes(first(64)...)...),
	}
	for _, t := range []int{1, 2, 255, 256, 65536, 1 << 24, mostTimeline - 1, mostTimeline} {
		l = append(l, head(t, 0))
		for _, n := range []int{1, 255, 256, 1<<32 - 1, 1 << 32, mostCommit - 1, mostCommit} {
			l = append(l, head(t, n), commit(t, n), commit(t, n, writes(2, 9)...))
		}
	}
	return l
}

func wrongOnes() map[string]api.Record {
	m := map[string]api.Record{
		"the zero record":            {},
		"no kind, but all the rest":  {Timeline: 1, Number: 1},
		"kind -1":                    {Kind: -1, Timeline: 1, Number: 1},
		"kind 4":                     {Kind: 4, Timeline: 1, Number: 1},
		"kind 4 of noughts":          {Kind: 4},
		"kind 257":                   {Kind: 257, Timeline: 1, Number: 1},
		"kind 258":                   {Kind: 258},
		"the least kind":             {Kind: math.MinInt},
		"the greatest kind":          {Kind: math.MaxInt, Timeline: 1, Number: 1},
		"a switch with a timeline":   {Kind: 2, Timeline: 1},
		"a switch with timeline -1":  {Kind: 2, Timeline: -1},
		"a switch with a number":     {Kind: 2, Number: 1},
		"a switch with number -1":    {Kind: 2, Number: -1},
		"a switch with both":         {Kind: 2, Timeline: 1, Number: 1},
		"a switch with a write":      {Kind: 2, Writes: writes(3)},
		"a head with a write":        {Kind: 1, Timeline: 1, Number: 1, Writes: writes(3)},
		"a head of number 0, writes": {Kind: 1, Timeline: 1, Writes: writes(0)},
		"a commit of number 0":       commit(1, 0),
		"one of number 0, writes":    commit(1, 0, writes(3)...),
		"65 writes":                  commit(1, 1, writes(first(65)...)...),
		"65 writes, the last twice":  commit(1, 1, writes(append(first(64), 63)...)...),
		"64 writes from 1 on":        commit(1, 1, writes(first(65)[1:]...)...),
		"1000 writes":                commit(1, 1, writes(first(1000)...)...),
		"a write that is zero":       commit(1, 1, api.Write{}),
		"writes that fall":           commit(1, 1, writes(4, 3)...),
		"writes that fall later on":  commit(1, 1, writes(1, 5, 9, 8, 20)...),
		"writes that fall to 0":      commit(1, 1, writes(1, 0)...),
		"one block twice":            commit(1, 1, writes(3, 3)...),
		"block 0 twice":              commit(1, 1, writes(0, 0)...),
		"block 63 twice":             commit(1, 1, writes(1, 63, 63)...),
	}
	for _, t := range []int{math.MinInt, -mostTimeline, -1, 0, mostTimeline + 1, 1<<32 + 1, math.MaxInt} {
		m[fmt.Sprintf("a head of timeline %d", t)] = head(t, 1)
		m[fmt.Sprintf("a commit of timeline %d", t)] = commit(t, 1, writes(3)...)
	}
	for _, n := range []int{math.MinInt, -mostCommit, -1, mostCommit + 1, math.MaxInt} {
		m[fmt.Sprintf("a head of number %d", n)] = head(1, n)
		m[fmt.Sprintf("a commit of number %d", n)] = commit(1, n, writes(3)...)
		m[fmt.Sprintf("a commit of number %d, no writes", n)] = commit(1, n)
	}
	for _, n := range []int{math.MinInt, -65536, -1, 64, 65, 65536, math.MaxInt} {
		m[fmt.Sprintf("block %d", n)] = commit(1, 1, writes(n)...)
		m[fmt.Sprintf("block %d behind another", n)] = commit(1, 1, writes(3, n)...)
		m[fmt.Sprintf("block %d ahead of another", n)] = commit(1, 1, writes(n, 3)...)
	}
	for _, n := range []int{0, 1, 63, 65, 128} {
		w := api.Write{Block: 3, B: make([]byte, n)}
		m[fmt.Sprintf("a block of %d bytes", n)] = commit(1, 1, w)
		m[fmt.Sprintf("a block of %d bytes behind another", n)] = commit(1, 1, append(writes(2), w)...)
		m[fmt.Sprintf("a block of %d bytes ahead of another", n)] = commit(1, 1, append([]api.Write{w}, writes(4)...)...)
	}
	m["a block without bytes"] = commit(1, 1, api.Write{Block: 3})
	return m
}

// P7.1: right records, their bytes and how many frames these need. P7.3: what is put is got.
func TestRightRecords(t *testing.T) {
	for i, r := range rightOnes() {
		b := bytesOf(r)
		if !record.Right(r) {
			t.Errorf("%d: %v is right", i, r)
		}
		if got := record.Put(r); !bytes.Equal(got, b) {
			t.Errorf("%d: put as %x, wanted %x", i, got, b)
		}
		if n := record.Sectors(r); n != (len(b)+39)/40 {
			t.Errorf("%d: %d sectors of %d bytes", i, n, len(b))
		}
		if got, e := record.Get(b); e != api.OK || !alike(got, r) {
			t.Errorf("%d: %v %v, wanted %v", i, got, e, r)
		}
		if got, e := record.Get(record.Put(r)); e != api.OK || !record.Same(got, r) {
			t.Errorf("%d: %v %v isn't the same as what was put", i, got, e)
		}
	}
}

// P7.1: none of what isn't right.
func TestWrongRecords(t *testing.T) {
	for what, r := range wrongOnes() {
		if record.Right(r) {
			t.Errorf("%s is right", what)
		}
		if b := record.Put(r); len(b) != 0 {
			t.Errorf("%s is put: %x", what, b)
		}
		if n := record.Sectors(r); n != 0 {
			t.Errorf("%s needs %d sectors", what, n)
		}
	}
}

// P7.1: bytes that are written out here.
func TestBytes(t *testing.T) {
	if b := record.Put(api.Record{Kind: api.RecSwitch}); string(b) != "\x02" {
		t.Errorf("a switch: %x", b)
	}
	if b := record.Put(api.Record{Kind: api.RecHead, Timeline: 258, Number: 772}); string(b) != "\x01\x00\x00\x01\x02\x00\x00\x00\x00\x00\x00\x03\x04" {
		t.Errorf("a head: %x", b)
	}
	w := api.Write{Block: 9, B: bytes.Repeat([]byte("ab"), 32)}
	wanted := "\x03\x00\x00\x00\x02\x00\x00\x01\x00\x00\x00\x00\x00\x00\x01\x00\x09" + string(w.B)
	if b := record.Put(api.Record{Kind: api.RecCommit, Timeline: 2, Number: 1 << 40, Writes: []api.Write{w}}); string(b) != wanted {
		t.Errorf("a commit: %x", b)
	}
}

// P7.1: how many frames; 15 bytes and 66 of each write are never a multiple of 40, so one byte less and one more are the edges.
func TestSectors(t *testing.T) {
	for _, x := range []struct{ writes, sectors int }{
		{0, 1},                          // 15 bytes
		{1, 3},                          // 81: one more than two frames
		{3, 6},                          // 213
		{4, 7},                          // 279: one less than seven
		{21, 36},                        // 1401: one more than 35
		{24, 40},                        // 1599: one less than 40
		{41, 69},                        // 2721: one more than 68
		{44, 73},                        // 2919: one less than 73
		{61, 102},                       // 4041: one more than 101
		{62, 103}, {63, 105}, {64, 106}, // 4239 bytes of all blocks: one less than 106
		{65, 0},
	} {
		if n := record.Sectors(commit(1, 1, writes(first(x.writes)...)...)); n != x.sectors {
			t.Errorf("%d writes: %d sectors, wanted %d", x.writes, n, x.sectors)
		}
	}
	if n := record.Sectors(api.Record{Kind: 2}); n != 1 {
		t.Errorf("a switch: %d", n)
	}
	if n := record.Sectors(head(mostTimeline, mostCommit)); n != 1 {
		t.Errorf("a head: %d", n)
	}
}

// P7.1: bytes that are no right record's.
func TestGetRefuses(t *testing.T) {
	two := writes(3, 9)
	head13 := spelt(1, 1, 1, 0, nil)[:13]
	for what, b := range map[string][]byte{
		"no bytes":                        nil,
		"empty bytes":                     {},
		"kind 0":                          {0},
		"kind 1 alone":                    {1},
		"kind 3 alone":                    {3},
		"kind 4 alone":                    {4},
		"kind 255 alone":                  {255},
		"kind 0 of a head's length":       spelt(0, 1, 1, 0, nil)[:13],
		"kind 4 of a head's length":       spelt(4, 1, 1, 0, nil)[:13],
		"kind 0 of a commit's length":     spelt(0, 1, 1, 2, two),
		"kind 4 of a commit's length":     spelt(4, 1, 1, 2, two),
		"a switch of a head's length":     spelt(2, 1, 1, 0, nil)[:13],
		"a switch, noughts behind it":     spelt(2, 0, 0, 0, nil)[:13],
		"a switch, a nought behind it":    {2, 0},
		"two switches":                    {2, 2},
		"a head of a commit's length":     spelt(1, 1, 1, 0, nil),
		"a head with writes":              spelt(1, 1, 1, 2, two),
		"a commit of a head's length":     append([]byte{3}, head13[1:]...),
		"a head behind a switch":          append([]byte{2}, head13...),
		"a switch behind a head":          append(bytes.Clone(head13), 2),
		"a head of timeline 0":            spelt(1, 0, 1, 0, nil)[:13],
		"a head of timeline 2^31":         spelt(1, 1<<31, 1, 0, nil)[:13],
		"a head of timeline 2^32-1":       spelt(1, math.MaxUint32, 1, 0, nil)[:13],
		"a head of number 2^40+1":         spelt(1, 1, mostCommit+1, 0, nil)[:13],
		"a head of number 2^63-1":         spelt(1, 1, 1<<63-1, 0, nil)[:13],
		"a head of number 2^63":           spelt(1, 1, 1<<63, 0, nil)[:13],
		"a head of number 2^64-1":         spelt(1, 1, math.MaxUint64, 0, nil)[:13],
		"a commit of timeline 0":          spelt(3, 0, 1, 2, two),
		"a commit of timeline 2^31":       spelt(3, 1<<31, 1, 2, two),
		"a commit of number 0":            spelt(3, 1, 0, 2, two),
		"a commit of number 0, no writes": spelt(3, 1, 0, 0, nil),
		"a commit of number 2^40+1":       spelt(3, 1, mostCommit+1, 2, two),
		"a commit of number 2^63":         spelt(3, 1, 1<<63, 2, two),
		"a commit of number 2^64-1":       spelt(3, 1, math.MaxUint64, 0, nil),
		"a count of one less":             spelt(3, 1, 1, 1, two),
		"a count of none":                 spelt(3, 1, 1, 0, two),
		"a count of one more":             spelt(3, 1, 1, 3, two),
		"a count of 1 and no write":       spelt(3, 1, 1, 1, nil),
		"a count of 65535 and no write":   spelt(3, 1, 1, 65535, nil),
		"a count of 65535 and two":        spelt(3, 1, 1, 65535, two),
		"65 writes":                       spelt(3, 1, 1, 65, writes(first(65)...)),
		"65 writes, the last twice":       spelt(3, 1, 1, 65, writes(append(first(64), 63)...)),
		"65 writes, a count of 64":        spelt(3, 1, 1, 64, writes(first(65)...)),
		"64 writes, a count of 65":        spelt(3, 1, 1, 65, writes(first(64)...)),
		"65535 writes":                    spelt(3, 1, 1, 65535, writes(first(65535)...)),
		"block 64":                        spelt(3, 1, 1, 1, writes(64)),
		"block 65535":                     spelt(3, 1, 1, 2, writes(3, 65535)),
		"writes that fall":                spelt(3, 1, 1, 2, writes(9, 3)),
		"one block twice":                 spelt(3, 1, 1, 2, writes(3, 3)),
		"a write as a text":               spelt(3, 1, 1, 1, []api.Write{{Block: 3, B: append([]byte{0, 64}, block(1)...)}}),
		"a write of 63 bytes":             spelt(3, 1, 1, 1, []api.Write{{Block: 3, B: block(1)[:63]}}),
		"writes of 63 and 65 bytes":       spelt(3, 1, 1, 2, []api.Write{{Block: 3, B: make([]byte, 63)}, {Block: 9, B: make([]byte, 65)}}),
	} {
		wantForm(t, what, b)
	}
}

func wantForm(t *testing.T, what string, b []byte) {
	t.Helper()
	if r, e := record.Get(b); e != api.ErrForm || !alike(r, api.Record{}) {
		t.Errorf("%s: %v %v", what, r, e)
	}
}

// P7.1: one byte too few or too many, at all lengths below the record's and a few above.
func TestGetOfOtherLengths(t *testing.T) {
	for i, r := range rightOnes() {
		b := record.Put(r)
		for n := range b {
			if len(b) > 300 && n > 30 && n < len(b)-70 {
				continue
			}
			wantForm(t, fmt.Sprintf("%d: %d bytes of %d", i, n, len(b)), b[:n])
		}
		for _, more := range [][]byte{{0}, {1}, {255}, make([]byte, 64), make([]byte, 66)} {
			wantForm(t, fmt.Sprintf("%d: %x behind it", i, more), append(bytes.Clone(b), more...))
		}
	}
}

// P7.1: whatever the bytes, what is got is right, and its bytes are just those.
func TestGetOfAnyBytes(t *testing.T) {
	rnd := rand.New(rand.NewSource(7))
	ones := rightOnes()
	got := 0
	for range 20000 {
		b := bytesOf(ones[rnd.Intn(len(ones))])
		for range 1 + rnd.Intn(2) {
			b[rnd.Intn(min(len(b), 20))] ^= 1 << rnd.Intn(8)
		}
		if rnd.Intn(4) == 0 {
			b = b[:rnd.Intn(len(b)+1)]
		}
		r, e := record.Get(b)
		if e == api.OK {
			got++
			if !record.Right(r) || !bytes.Equal(record.Put(r), b) || !bytes.Equal(bytesOf(r), b) {
				t.Fatalf("%x is got as %v", b, r)
			}
			continue
		}
		if e != api.ErrForm || !alike(r, api.Record{}) {
			t.Fatalf("%x: %v %v", b, r, e)
		}
	}
	if got == 0 {
		t.Errorf("nothing was got")
	}
}

// P7.1: each bit of a commit, turned, is another record or none.
func TestGetOfTurnedBits(t *testing.T) {
	r := commit(7, 300, writes(3, 9)...)
	for i := range 8 * len(bytesOf(r)) {
		b := bytesOf(r)
		b[i/8] ^= 1 << (i % 8)
		if got, e := record.Get(b); e == api.OK && (record.Same(got, r) || !bytes.Equal(bytesOf(got), b)) {
			t.Errorf("bit %d: %v", i, got)
		}
	}
}

// P7.1: Same, of records that are right and that aren't.
func TestSame(t *testing.T) {
	all := rightOnes()
	for _, r := range wrongOnes() {
		all = append(all, r)
	}
	for _, a := range all {
		for _, b := range all {
			if record.Same(a, b) != alike(a, b) {
				t.Errorf("%v and %v: %v", a, b, record.Same(a, b))
			}
		}
		if !record.Same(a, cloned(a)) || !record.Same(cloned(a), a) {
			t.Errorf("%v isn't the same as itself", a)
		}
	}
}

// P7.1: Same, of records that differ in just one part.
func TestSameButForOnePart(t *testing.T) {
	was := commit(5, 6, writes(2, 3, 4)...)
	for what, change := range map[string]func(r *api.Record){
		"kind":                 func(r *api.Record) { r.Kind = 1 },
		"timeline":             func(r *api.Record) { r.Timeline++ },
		"timeline, far":        func(r *api.Record) { r.Timeline += 1 << 32 },
		"number":               func(r *api.Record) { r.Number++ },
		"number, far":          func(r *api.Record) { r.Number -= 1 << 62 },
		"no writes":            func(r *api.Record) { r.Writes = nil },
		"one write less":       func(r *api.Record) { r.Writes = r.Writes[:2] },
		"first write gone":     func(r *api.Record) { r.Writes = r.Writes[1:] },
		"one write more":       func(r *api.Record) { r.Writes = append(r.Writes, api.Write{}) },
		"first block":          func(r *api.Record) { r.Writes[0].Block = 1 },
		"last block":           func(r *api.Record) { r.Writes[2].Block = 5 },
		"first byte":           func(r *api.Record) { r.Writes[0].B[0]++ },
		"last byte":            func(r *api.Record) { r.Writes[2].B[63]++ },
		"one byte less":        func(r *api.Record) { r.Writes[1].B = r.Writes[1].B[:63] },
		"one byte more":        func(r *api.Record) { r.Writes[1].B = append(r.Writes[1].B, 0) },
		"no bytes":             func(r *api.Record) { r.Writes[1].B = nil },
		"writes in turn":       func(r *api.Record) { r.Writes[0], r.Writes[1] = r.Writes[1], r.Writes[0] },
		"bytes of two in turn": func(r *api.Record) { r.Writes[0].B, r.Writes[1].B = r.Writes[1].B, r.Writes[0].B },
	} {
		other := cloned(was)
		change(&other)
		if record.Same(was, other) || record.Same(other, was) {
			t.Errorf("%s: told as the same", what)
		}
		if !record.Same(other, cloned(other)) {
			t.Errorf("%s: not the same as itself", what)
		}
	}
}

// Rule 4: nil and empty are one.
func TestNilAndEmpty(t *testing.T) {
	for kind := range 5 {
		a := api.Record{Kind: kind, Timeline: 1, Number: 1}
		b := api.Record{Kind: kind, Timeline: 1, Number: 1, Writes: []api.Write{}}
		if !record.Same(a, b) || !record.Same(b, a) || record.Right(a) != record.Right(b) || record.Sectors(a) != record.Sectors(b) || !bytes.Equal(record.Put(a), record.Put(b)) {
			t.Errorf("kind %d: nil and empty Writes aren't one", kind)
		}
		a.Writes, b.Writes = []api.Write{{Block: 3}}, []api.Write{{Block: 3, B: []byte{}}}
		if !record.Same(a, b) || !record.Same(b, a) {
			t.Errorf("kind %d: nil and empty bytes aren't one", kind)
		}
	}
	if len(record.Merge()) != 0 || len(record.Merge(nil)) != 0 || len(record.Merge(nil, []api.Write{}, nil)) != 0 || len(record.Merge([][]api.Write{}...)) != 0 {
		t.Errorf("nothing is merged to something")
	}
	if m := record.Merge([]api.Write{{Block: 3, B: []byte{}}}, []api.Write{{Block: 2}}); !alikeWrites(m, []api.Write{{Block: 2}, {Block: 3}}) {
		t.Errorf("writes of no bytes: %v", m)
	}
}

func w(block int, b string) api.Write {
	return api.Write{Block: block, B: []byte(b)}
}

// P7.2, at the chapter's edges.
func TestMerge(t *testing.T) {
	for what, x := range map[string]struct {
		lists  [][]api.Write
		wanted []api.Write
	}{
		"one list":                     {[][]api.Write{{w(1, "a"), w(2, "b")}}, []api.Write{w(1, "a"), w(2, "b")}},
		"one that falls":               {[][]api.Write{{w(9, "a"), w(5, "b"), w(1, "c")}}, []api.Write{w(1, "c"), w(5, "b"), w(9, "a")}},
		"a block twice":                {[][]api.Write{{w(3, "a"), w(3, "b")}}, []api.Write{w(3, "b")}},
		"twice, with others between":   {[][]api.Write{{w(3, "a"), w(1, "x"), w(3, "b"), w(7, "y")}}, []api.Write{w(1, "x"), w(3, "b"), w(7, "y")}},
		"two lists, the later holds":   {[][]api.Write{{w(3, "a")}, {w(3, "b")}}, []api.Write{w(3, "b")}},
		"the last of the last list":    {[][]api.Write{{w(3, "a"), w(3, "b")}, {w(3, "c"), w(3, "d")}}, []api.Write{w(3, "d")}},
		"an elder list's own block":    {[][]api.Write{{w(3, "a"), w(4, "b")}, {w(3, "c")}, {w(1, "d")}}, []api.Write{w(1, "d"), w(3, "c"), w(4, "b")}},
		"nil and empty lists between":  {[][]api.Write{nil, {w(3, "a")}, {}, {w(2, "b")}, nil}, []api.Write{w(2, "b"), w(3, "a")}},
		"the later is shorter, or nil": {[][]api.Write{{w(3, "long"), w(4, "x")}, {w(3, ""), {Block: 4}}}, []api.Write{w(3, ""), w(4, "")}},
		"the later is the same":        {[][]api.Write{{w(3, "a")}, {w(3, "a")}}, []api.Write{w(3, "a")}},
		"blocks of any number": {[][]api.Write{{w(math.MaxInt, "a"), w(0, "b"), w(-1, "c")}, {w(math.MinInt, "d"), w(64, "e"), w(-1, "f")}},
			[]api.Write{w(math.MinInt, "d"), w(-1, "f"), w(0, "b"), w(64, "e"), w(math.MaxInt, "a")}},
	} {
		if m := record.Merge(x.lists...); !alikeWrites(m, x.wanted) {
			t.Errorf("%s: %v, wanted %v", what, m, x.wanted)
		}
	}
}

// merged is what Merge must answer, by the library.
func merged(lists [][]api.Write) []api.Write {
	last := map[int][]byte{}
	for _, l := range lists {
		for _, w := range l {
			last[w.Block] = w.B
		}
	}
	var m []api.Write
	for n, b := range last {
		m = append(m, api.Write{Block: n, B: b})
	}
	slices.SortFunc(m, func(a, b api.Write) int { return cmp.Compare(a.Block, b.Block) })
	return m
}

// P7.2 and P7.3: random lists; merged ones rise, merging again changes nothing, and merging piece by piece is merging at once.
func TestMergeOfAnyLists(t *testing.T) {
	rnd := rand.New(rand.NewSource(72))
	for round := range 3000 {
		lists := make([][]api.Write, rnd.Intn(6))
		for i := range lists {
			for range rnd.Intn(12) {
				b := make([]byte, rnd.Intn(4))
				rnd.Read(b)
				lists[i] = append(lists[i], api.Write{Block: rnd.Intn(1+round%40) - round%3, B: b})
			}
		}
		m := record.Merge(lists...)
		if !alikeWrites(m, merged(lists)) {
			t.Fatalf("%v: %v", lists, m)
		}
		for i := range m {
			if i > 0 && m[i-1].Block >= m[i].Block {
				t.Fatalf("%v: doesn't rise: %v", lists, m)
			}
		}
		if !alikeWrites(record.Merge(m), m) || !alikeWrites(record.Merge(m, m), m) || !alikeWrites(record.Merge(nil, m, nil), m) {
			t.Fatalf("%v: merged again it changes", lists)
		}
		if len(lists) > 1 {
			at := 1 + rnd.Intn(len(lists)-1)
			if !alikeWrites(record.Merge(record.Merge(lists[:at]...), record.Merge(lists[at:]...)), m) {
				t.Fatalf("%v: cut at %d, it is another one", lists, at)
			}
		}
	}
}

// P7.3: what is merged of blocks of a store is a right commit's, and is got again.
func TestMergedIsPut(t *testing.T) {
	var lists [][]api.Write
	for _, l := range [][]int{{63, 0, 5}, {5, 5, 5}, {62, 1}, first(64), {7, 9, 8}} {
		lists = append(lists, writes(l...))
		r := commit(1, 1, record.Merge(lists...)...)
		if got, e := record.Get(record.Put(r)); !record.Right(r) || e != api.OK || !alikeWrites(got.Writes, merged(lists)) {
			t.Errorf("%v: %v %v", l, got, e)
		}
	}
}

// inRoom is b with spare room behind it that is full of 77.
func inRoom(b []byte) []byte {
	return append(bytes.Clone(b), bytes.Repeat([]byte{77}, 80)...)[:len(b)]
}

// writesInRoom is l with spare room behind the list and behind each one's bytes.
func writesInRoom(l []api.Write) []api.Write {
	var room []api.Write
	for _, w := range l {
		room = append(room, api.Write{Block: w.Block, B: inRoom(w.B)})
	}
	for range 4 {
		room = append(room, api.Write{Block: 77, B: inRoom(nil)})
	}
	return room[:len(l)]
}

// wantKept tells whether writesInRoom's list of l is still what it was.
func wantKept(t *testing.T, what string, room, l []api.Write) {
	t.Helper()
	wanted := writesInRoom(l)
	room, wanted = room[:len(l)+4], wanted[:len(l)+4]
	for i, x := range room {
		if x.Block != wanted[i].Block || len(x.B) != len(wanted[i].B) || !bytes.Equal(x.B[:len(x.B)+80], wanted[i].B[:len(x.B)+80]) {
			t.Errorf("%s changed what was handed in, at %d: %v", what, i, x)
		}
	}
}

// spoil writes over all of a list, its spare room and that of its bytes too.
func spoil(l []api.Write) {
	for _, w := range l {
		spoilBytes(w.B)
	}
	l = l[:cap(l)]
	for i := range l {
		l[i] = api.Write{Block: -9}
	}
}

func spoilBytes(b []byte) {
	b = b[:cap(b)]
	for i := range b {
		b[i] ^= 0x5a
	}
}

// Rule 5: Put, Right, Same and Sectors change nothing, and Put's answer is new memory.
func TestMemoryOfPut(t *testing.T) {
	l := writes(2, 3, 9)
	room := writesInRoom(l)
	r := commit(1, 1, room...)
	r.Writes = room
	wanted := bytesOf(r)
	one, two := record.Put(r), record.Put(r)
	record.Right(r)
	record.Sectors(r)
	record.Same(r, r)
	wantKept(t, "Put", room, l)
	spoilBytes(one)
	wantKept(t, "a change of Put's answer", room, l)
	if !bytes.Equal(two, wanted) {
		t.Errorf("two answers of Put share memory")
	}
	spoil(room)
	if !bytes.Equal(two, wanted) {
		t.Errorf("Put's answer shares memory with the record")
	}
}

// Rule 5: Get changes nothing, keeps nothing, and no two lists that it answers share memory.
func TestMemoryOfGet(t *testing.T) {
	r := commit(7, 300, writes(2, 3, 9)...)
	was := bytesOf(r)
	room := inRoom(was)
	one, e1 := record.Get(room)
	two, e2 := record.Get(room)
	if e1 != api.OK || e2 != api.OK {
		t.Fatalf("%v %v", e1, e2)
	}
	for i := range one.Writes {
		spoilBytes(one.Writes[i].B)
		for k, w := range one.Writes {
			if k > i && !bytes.Equal(w.B, r.Writes[k].B) {
				t.Errorf("the bytes of %d and %d share memory", i, k)
			}
		}
	}
	spoil(one.Writes)
	if !bytes.Equal(room[:len(was)+80], inRoom(was)[:len(was)+80]) {
		t.Errorf("what was handed in is changed")
	}
	if !alike(two, r) {
		t.Errorf("two answers share memory")
	}
	spoilBytes(room)
	if !alike(two, r) {
		t.Errorf("the answer shares memory with what was handed in")
	}
}

// Rule 5: Merge changes nothing, keeps nothing, and no two lists that it answers share memory, though the writes that are handed in do.
func TestMemoryOfMerge(t *testing.T) {
	a, b := []api.Write{w(5, "five"), w(1, "one")}, []api.Write{w(5, "fünf"), w(9, "neun")}
	roomA, roomB := writesInRoom(a), writesInRoom(b)
	wanted := []api.Write{w(1, "one"), w(5, "fünf"), w(9, "neun")}
	one, two := record.Merge(roomA, roomB), record.Merge(roomA, roomB)
	spoil(one)
	wantKept(t, "Merge", roomA, a)
	wantKept(t, "Merge", roomB, b)
	spoil(roomA)
	spoil(roomB)
	if !alikeWrites(two, wanted) {
		t.Errorf("Merge's answer shares memory: %v", two)
	}
	again := record.Merge(two)
	spoil(two)
	if !alikeWrites(again, wanted) {
		t.Errorf("merged of one list that rises, the answer shares memory: %v", again)
	}
	shared := []byte("shared")
	m := record.Merge([]api.Write{{Block: 1, B: shared}, {Block: 2, B: shared}, {Block: 3, B: shared[:3]}})
	spoilBytes(m[0].B)
	if string(m[1].B) != "shared" || string(m[2].B) != "sha" || string(shared) != "shared" {
		t.Errorf("the bytes of two writes share memory: %v", m)
	}
	// What one appends to a write's bytes isn't in another's.
	m[1].B = append(m[1].B, "behind it"...)
	if string(m[2].B) != "sha" {
		t.Errorf("the room behind a write's bytes is another's: %v", m)
	}
}
