package tests

import (
	"bytes"
	"math"
	"slices"
	"testing"

	"loop.example/s0051/impl"
)

// The tests of promise 3: Walk gives exactly the code, level, entry and records of chapter 3.

const allPpn = uint64(1)<<44 - 1

func put8(mem []byte, addr int, val uint64) {
	for i := range 8 {
		mem[addr+i] = byte(val >> (8 * i))
	}
}

// exampleMem is the memory of the document's chapter Examples.
func exampleMem() []byte {
	mem := make([]byte, 1024)
	put8(mem, 64, 2049)
	put8(mem, 72, 207)
	put8(mem, 128, 3073)
	put8(mem, 136, 8399)
	put8(mem, 144, 9423)
	put8(mem, 152, 102401)
	put8(mem, 200, 7375)
	return mem
}

func wantWalk(mem []byte, root uint64, va uint64) impl.WalkRes {
	res := impl.WalkRes{Code: impl.WalkPage, Level: 2}
	if !wantCanonical(va) {
		return res
	}
	table := root % (1 << 44)
	for covers := uint64(4096); ; covers /= 8 {
		addr := 64*table + 8*(va/covers%8)
		read := wantRead(mem, addr, 8)
		if !read.Ok {
			res.Code = impl.WalkAccess
			return res
		}
		kind := wantKind(read.Val, res.Level)
		if kind == impl.PteBad {
			return res
		}
		res.Recs = append(res.Recs, impl.Rec{Level: res.Level, Addr: addr, Val: read.Val})
		if kind == impl.PteLeaf {
			res.Code, res.Pte = impl.WalkLeaf, read.Val
			return res
		}
		table = ppnOf(read.Val)
		res.Level--
	}
}

func sameWalk(a, b impl.WalkRes) bool {
	return a.Code == b.Code && a.Level == b.Level && a.Pte == b.Pte && slices.Equal(a.Recs, b.Recs)
}

func checkWalk(t *testing.T, mem []byte, root uint64, va uint64) impl.WalkRes {
	t.Helper()
	before := bytes.Clone(mem)
	got, want := impl.Walk(mem, root, va), wantWalk(before, root, va)
	if !sameWalk(got, want) {
		t.Fatalf("len %d, root %#x, va %#x: %+v, want %+v", len(mem), root, va, got, want)
	}
	if !bytes.Equal(mem, before) {
		t.Fatalf("len %d, root %#x, va %#x: the walk wrote into its argument", len(mem), root, va)
	}
	return got
}

// dice makes the same numbers in every run.
type dice uint64

func (d *dice) next() uint64 {
	*d ^= *d << 13
	*d ^= *d >> 7
	*d ^= *d << 17
	return uint64(*d)
}

func (d *dice) below(n uint64) uint64 {
	return d.next() >> 11 % n
}

// someEntry leans to what a walk goes on with: good pointers, and leaves in line.
func someEntry(d *dice, pages uint64) uint64 {
	low := d.below(256)
	switch d.below(12) {
	case 0, 1, 2, 3, 4:
		return d.below(pages+2)<<10 | impl.BitV | d.below(2)*impl.BitG | d.below(4)<<8
	case 5:
		return d.below(pages)<<10 | low&^(impl.BitR|impl.BitW|impl.BitX) | impl.BitV
	case 6:
		return d.below(pages)<<10 | low | impl.BitV | impl.BitR
	case 7:
		return d.below(pages)<<13 | low | impl.BitV | impl.BitR | impl.BitA
	case 8:
		return d.below(pages)<<16 | low | impl.BitV | impl.BitX | impl.BitR
	case 9:
		return d.next()>>10 | low
	case 10:
		return d.below(pages)<<10 | impl.BitV | 1<<(10+d.below(54))
	}
	return d.below(pages)<<10 | low
}

func someTables(d *dice, size int) []byte {
	mem := make([]byte, size)
	for i := range mem {
		mem[i] = byte(d.next() >> 20)
	}
	for addr := 0; addr+8 <= size; addr += 8 {
		put8(mem, addr, someEntry(d, uint64(size/64)+1))
	}
	return mem
}

// someVa is canonical more often than not.
func someVa(d *dice) uint64 {
	switch d.below(8) {
	case 0:
		return d.next()
	case 1:
		return d.below(1 << 16)
	case 2, 3, 4:
		return math.MaxUint64 - d.below(1<<14)
	}
	return d.below(1 << 14)
}

func TestWalkExamples(t *testing.T) {
	mem := exampleMem()
	a := impl.Rec{Level: 2, Addr: 64, Val: 2049}
	b := impl.Rec{Level: 1, Addr: 128, Val: 3073}
	rows := []struct {
		root uint64
		va   uint64
		want impl.WalkRes
	}{
		{1, 69, impl.WalkRes{Code: impl.WalkLeaf, Level: 0, Pte: 7375, Recs: []impl.Rec{a, b, {Level: 0, Addr: 200, Val: 7375}}}},
		{1, 582, impl.WalkRes{Code: impl.WalkLeaf, Level: 1, Pte: 8399, Recs: []impl.Rec{a, {Level: 1, Addr: 136, Val: 8399}}}},
		{1, 4196, impl.WalkRes{Code: impl.WalkLeaf, Level: 2, Pte: 207, Recs: []impl.Rec{{Level: 2, Addr: 72, Val: 207}}}},
		{1, 1024, impl.WalkRes{Code: impl.WalkPage, Level: 1, Recs: []impl.Rec{a}}},
		{1, 1536, impl.WalkRes{Code: impl.WalkAccess, Level: 0, Recs: []impl.Rec{a, {Level: 1, Addr: 152, Val: 102401}}}},
		{1, 16384, impl.WalkRes{Code: impl.WalkPage, Level: 2}},
		{16, 0, impl.WalkRes{Code: impl.WalkAccess, Level: 2}},
		{1, 0, impl.WalkRes{Code: impl.WalkPage, Level: 0, Recs: []impl.Rec{a, b}}},
		{1, 1<<64 - 1, impl.WalkRes{Code: impl.WalkPage, Level: 2}},
	}
	for _, r := range rows {
		if got := impl.Walk(mem, r.root, r.va); !sameWalk(got, r.want) {
			t.Errorf("root %d, va %d: %+v, want %+v", r.root, r.va, got, r.want)
		}
	}
}

// Every page of the address space, below and above, at the roots of the example.
func TestWalkEveryPage(t *testing.T) {
	mem := exampleMem()
	for root := range uint64(18) {
		for page := range uint64(256) {
			for _, place := range []uint64{0, 5, 63} {
				checkWalk(t, mem, root, 64*page+place)
				checkWalk(t, mem, root, -(64*(page+1))+place)
				checkWalk(t, mem, root, 16384+64*page+place)
			}
		}
	}
}

// A walk that ends at each level with each code, with the records of the pointers before.
func TestWalkEachEndAtEachLevel(t *testing.T) {
	ends := []struct {
		pte  uint64
		code int64
	}{
		{impl.BitV | impl.BitR, impl.WalkLeaf},
		{64<<10 | impl.BitV | impl.BitX | impl.BitG, impl.WalkLeaf},
		{0, impl.WalkPage},
		{impl.BitV | impl.BitW | impl.BitX, impl.WalkPage},
		{impl.BitV | impl.BitA, impl.WalkPage},
		{impl.BitV | impl.BitD, impl.WalkPage},
		{impl.BitV | impl.BitU, impl.WalkPage},
		{1<<54 | impl.BitV | impl.BitR, impl.WalkPage},
		{1<<63 | impl.BitV, impl.WalkPage},
	}
	for last := int64(2); last >= 0; last-- {
		for _, end := range ends {
			mem := make([]byte, 256)
			at := []int{2: 64 + 8*3, 1: 128 + 8*6, 0: 192 + 8*1}
			va := uint64(3<<12 | 6<<9 | 1<<6 | 33)
			put8(mem, at[2], 2<<10|impl.BitV)
			put8(mem, at[1], 3<<10|impl.BitV|impl.BitG)
			put8(mem, at[last], end.pte)
			want := impl.WalkRes{Code: end.code, Level: last}
			for level := int64(2); level > last; level-- {
				want.Recs = append(want.Recs, impl.Rec{Level: level, Addr: uint64(at[level]), Val: wantRead(mem, uint64(at[level]), 8).Val})
			}
			if end.code == impl.WalkLeaf {
				want.Pte = end.pte
				want.Recs = append(want.Recs, impl.Rec{Level: last, Addr: uint64(at[last]), Val: end.pte})
			}
			if got := impl.Walk(mem, 1, va); !sameWalk(got, want) {
				t.Errorf("entry %#x at level %d: %+v, want %+v", end.pte, last, got, want)
			}
		}
	}
}

// A large leaf whose PPN is out of line by one bit is bad; the same PPN is good a level below.
func TestWalkMisalignedLeaves(t *testing.T) {
	for level := int64(0); level <= 2; level++ {
		for i := range 44 {
			mem := make([]byte, 256)
			leaf := uint64(1)<<(10+i) | impl.BitV | impl.BitR
			put8(mem, 0, 1<<10|impl.BitV)
			put8(mem, 64, 2<<10|impl.BitV)
			put8(mem, []int{2: 0, 1: 64, 0: 128}[level], leaf)
			code, pte := int64(impl.WalkLeaf), leaf
			if int64(i) < 3*level {
				code, pte = impl.WalkPage, 0
			}
			if got := checkWalk(t, mem, 0, 0); got.Code != code || got.Level != level || got.Pte != pte {
				t.Errorf("bit %d of the PPN at level %d: %+v", i, level, got)
			}
		}
	}
}

func TestWalkPointerAtLevelZero(t *testing.T) {
	mem := make([]byte, 64)
	put8(mem, 0, impl.BitV)
	want := impl.WalkRes{Code: impl.WalkPage, Level: 0, Recs: []impl.Rec{{Level: 2, Val: impl.BitV}, {Level: 1, Val: impl.BitV}}}
	if got := impl.Walk(mem, 0, 0); !sameWalk(got, want) {
		t.Errorf("a table that points to itself: %+v, want %+v", got, want)
	}
}

// The memory ends anywhere: before an entry, within it, or right behind it.
func TestWalkMemoryOfEveryLength(t *testing.T) {
	back := make([]byte, 260)
	put8(back, 64+56, 2<<10|impl.BitV)
	put8(back, 128+56, 3<<10|impl.BitV)
	put8(back, 192+56, 9<<10|impl.BitV|impl.BitR)
	for size := range len(back) + 1 {
		got := checkWalk(t, back[:size], 1, math.MaxUint64)
		level, code := int64(2), int64(impl.WalkAccess)
		switch {
		case size >= 256:
			level, code = 0, impl.WalkLeaf
		case size >= 192:
			level = 0
		case size >= 128:
			level = 1
		}
		if got.Level != level || got.Code != code || got.Code == impl.WalkAccess && len(got.Recs) != int(2-level) {
			t.Errorf("len %d: %+v", size, got)
		}
	}
	for _, mem := range [][]byte{nil, {}, {1}, {1, 2, 3, 4, 5, 6, 7}} {
		for _, root := range []uint64{0, 1, allPpn, 1 << 44, math.MaxUint64} {
			got := impl.Walk(mem, root, 0)
			if !sameWalk(got, impl.WalkRes{Code: impl.WalkAccess, Level: 2}) {
				t.Errorf("len %d, root %#x: %+v", len(mem), root, got)
			}
			got = impl.Walk(mem, root, 1<<20)
			if !sameWalk(got, impl.WalkRes{Code: impl.WalkPage, Level: 2}) {
				t.Errorf("len %d, root %#x, va not canonical: %+v", len(mem), root, got)
			}
		}
	}
}

func TestWalkRoots(t *testing.T) {
	mem := exampleMem()
	for _, va := range []uint64{69, 582, 4196, 1024, 1536, 0, 16384} {
		want := impl.Walk(mem, 1, va)
		for i := 44; i < 64; i++ {
			for _, root := range []uint64{1 | 1<<i, 1 | math.MaxUint64<<i} {
				if got := checkWalk(t, mem, root, va); !sameWalk(got, want) {
					t.Errorf("root %#x, va %d: %+v, want %+v", root, va, got, want)
				}
			}
		}
		for i := range 44 {
			checkWalk(t, mem, 1<<i, va)
			checkWalk(t, mem, 1<<i|1, va)
			checkWalk(t, mem, allPpn<<i, va)
			checkWalk(t, mem, allPpn-1<<i, va)
		}
	}
	for _, root := range []uint64{allPpn, allPpn - 1, 1 << 43, 1 << 26, 1 << 42, 1 << 38, 1 << 40, math.MaxUint64} {
		if got := impl.Walk(mem, root, 69); !sameWalk(got, impl.WalkRes{Code: impl.WalkAccess, Level: 2}) {
			t.Errorf("root %#x: %+v", root, got)
		}
	}
}

// A pointer's PPN has 44 bits too: its table may lie far outside.
func TestWalkPointersFarOutside(t *testing.T) {
	for i := 1; i < 44; i++ {
		mem := make([]byte, 64)
		pte := uint64(1)<<(10+i) | impl.BitV
		put8(mem, 0, pte)
		want := impl.WalkRes{Code: impl.WalkAccess, Level: 1, Recs: []impl.Rec{{Level: 2, Addr: 0, Val: pte}}}
		if got := impl.Walk(mem, 0, 0); !sameWalk(got, want) {
			t.Errorf("pointer %#x: %+v, want %+v", pte, got, want)
		}
	}
}

func TestWalkNotCanonical(t *testing.T) {
	mem := bytes.Repeat([]byte{impl.BitV | impl.BitR, 0, 0, 0, 0, 0, 0, 0}, 64)
	for i := 14; i < 64; i++ {
		for _, va := range []uint64{1 << i, 1<<i | 77, ^uint64(1 << i), ^uint64(1<<i) - 300} {
			got := impl.Walk(mem, 0, va)
			if !sameWalk(got, impl.WalkRes{Code: impl.WalkPage, Level: 2}) {
				t.Errorf("va %#x: %+v", va, got)
			}
		}
	}
	if got := impl.Walk(mem, 0, 1<<64-1<<14); got.Code != impl.WalkLeaf {
		t.Errorf("the lowest of the upper addresses: %+v", got)
	}
}

func TestWalkGenerated(t *testing.T) {
	d := dice(20261115)
	ends := map[[2]int64]int{}
	sizes := []int{64, 128, 192, 256, 512, 1024, 4096, 7, 8, 63, 65, 71, 130, 203, 1001}
	for round := range 3000 {
		mem := someTables(&d, sizes[round%len(sizes)])
		for range 60 {
			root := d.below(uint64(len(mem)/64 + 2))
			if d.below(8) == 0 {
				root |= d.next() << 44
			}
			got := checkWalk(t, mem, root, someVa(&d))
			ends[[2]int64{got.Code, got.Level}]++
		}
	}
	for code := int64(1); code <= 3; code++ {
		for level := range int64(3) {
			if ends[[2]int64{code, level}] < 100 {
				t.Errorf("the walks ended with code %d at level %d only %d times", code, level, ends[[2]int64{code, level}])
			}
		}
	}
}

// keptOf has the bytes of the entries that the walk reads, the last one too.
func keptOf(mem []byte, root uint64, va uint64) map[uint64]byte {
	kept := map[uint64]byte{}
	w := wantWalk(mem, root, va)
	reads := len(w.Recs)
	if w.Code != impl.WalkLeaf && wantCanonical(va) {
		reads++
	}
	table, covers := root%(1<<44), uint64(4096)
	for range reads {
		addr := 64*table + 8*(va/covers%8)
		for i := range uint64(8) {
			if addr+i < uint64(len(mem)) {
				kept[addr+i] = mem[addr+i]
			}
		}
		table, covers = ppnOf(wantRead(mem, addr, 8).Val), covers/8
	}
	return kept
}

// Nothing but the entries that a walk reads may change its answer.
func TestWalkHangsOnItsEntriesAlone(t *testing.T) {
	d := dice(77)
	for range 4000 {
		mem := someTables(&d, 512)
		root, va := d.below(9), someVa(&d)
		want := impl.Walk(mem, root, va)
		if len(want.Recs) > 3 {
			t.Fatalf("root %d, va %#x: %+v", root, va, want)
		}
		other := someTables(&d, len(mem))
		for addr, b := range keptOf(mem, root, va) {
			other[addr] = b
		}
		if got := impl.Walk(other, root, va); !sameWalk(got, want) {
			t.Fatalf("root %d, va %#x: %+v, with other bytes elsewhere %+v", root, va, want, got)
		}
	}
}

func TestWalkAnswersShareNothing(t *testing.T) {
	mem := exampleMem()
	for _, va := range []uint64{69, 582, 4196, 1024, 1536, 0} {
		first, second := impl.Walk(mem, 1, va), impl.Walk(mem, 1, va)
		want := wantWalk(mem, 1, va)
		for i := range first.Recs[:cap(first.Recs)] {
			first.Recs[:cap(first.Recs)][i] = impl.Rec{Level: 9, Addr: 9, Val: 9}
		}
		if !sameWalk(second, want) {
			t.Errorf("va %d: the records of two answers share memory", va)
		}
		if !bytes.Equal(mem, exampleMem()) {
			t.Errorf("va %d: the records share memory with the argument", va)
		}
	}
	kept := impl.Walk(mem, 1, 69)
	want := wantWalk(mem, 1, 69)
	fill(mem, 0xff)
	if !sameWalk(kept, want) {
		t.Errorf("the answer changed with the memory: %+v", kept)
	}
}
