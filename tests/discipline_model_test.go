package tests

import (
	"bytes"
	"slices"
	"testing"

	"loop.example/s0051/impl"
)

// Chapter 5.6 told a second time, and programs made up for the tests of promises 12 to 16.

// ghost is a ghost record: what a cache could hold, and the address where it stood.
type ghost struct {
	impl.Entry
	addr uint64
}

// ghostSet keeps every record as it is, and asks all of them each time.
type ghostSet struct {
	all map[ghost]struct{}
	bad bool
}

func (g *ghostSet) translate(mem []byte, c impl.Ctx, kind int64, va uint64) {
	if !isOn(c) || !wantCanonical(va) {
		return
	}
	w := wantWalk(mem, c.Satp, va)
	for old := range g.all {
		if wantFits(old.Entry, va, asidOf(c)) && !slices.Contains(w.Recs, impl.Rec{Level: old.Level, Addr: old.addr, Val: old.Pte}) {
			g.bad = true
		}
	}
	for _, r := range w.Recs {
		if wantKind(r.Val, r.Level) == impl.PteLeaf && !wantGranted(r.Val, kind, c.Mode, c.Sum, c.Mxr) {
			continue
		}
		e := impl.Entry{Valid: true, Level: r.Level, Tag: wantTag(va, r.Level), Asid: asidOf(c), Global: bit(r.Val, 5), Pte: r.Val}
		g.all[ghost{Entry: e, addr: r.Addr}] = struct{}{}
	}
}

func (g *ghostSet) fence(f impl.Fence) {
	for old := range g.all {
		if wantCovers(f, old.Entry) {
			delete(g.all, old)
		}
	}
}

func wantDiscipline(b []byte) impl.Discipline {
	script, ghosts := wantScript(b), &ghostSet{all: map[ghost]struct{}{}}
	h := script.Hart
	for i := range script.Picks {
		h = wantWatched(h, true, 0, ghosts).Hart
		if ghosts.bad {
			return impl.Discipline{Ok: false, At: int64(i)}
		}
	}
	return impl.Discipline{Ok: true, At: int64(len(script.Picks))}
}

// checkDiscipline holds Disciplined against 5.6, and its argument against what it was before.
func checkDiscipline(t *testing.T, b []byte) impl.Discipline {
	t.Helper()
	text := append(make([]byte, 0, len(b)+16), b...)
	got, want := impl.Disciplined(text), wantDiscipline(b)
	if got != want {
		t.Fatalf("text % x: %+v, want %+v", b, got, want)
	}
	if !bytes.Equal(text, b) || bytes.Count(text[len(b):cap(text)], []byte{0}) != cap(text)-len(b) {
		t.Fatalf("text % x: the argument was written into", b)
	}
	return got
}

// checkUnseen is promise 12: both runs are one, and leave their argument as it is.
func checkUnseen(t *testing.T, b []byte) impl.Result {
	t.Helper()
	before := bytes.Clone(b)
	cached, plain := impl.RunBytes(b, false), impl.RunBytes(b, true)
	if !sameResult(cached, plain) {
		t.Fatalf("text % x: with caches\n%+v, plain\n%+v", b, cached, plain)
	}
	if !bytes.Equal(b, before) {
		t.Fatalf("text % x: the argument was written into", before)
	}
	return cached
}

func withPicks(b []byte, pick func(i int) int64) []byte {
	script := wantScript(b)
	for i := range script.Picks {
		script.Picks[i] = pick(i)
	}
	return textOf(script.Hart, script.Picks)
}

// tidyProgram is a script that mostly fences what it changes: behind a store into a table comes a fence over everything,
// over the page of the entry or over the address space. It may begin with translation off.
//
// Physical pages: 0 the handler and what starts the program, 1 and 15 roots, 2 and 14 tables of level 1, 3 and 4 tables of
// level 0, 5 and 6 code, then data. x1 is the address of a table entry, x2 an address that it is for, x3 another value for
// it, x4 is free, x5 an asid, x6 and x7 are two Satps.
func tidyProgram(d *dice, steps int) []byte {
	mode := []int64{impl.ModeU, impl.ModeS, impl.ModeS, impl.ModeS}[d.below(4)]
	h := impl.Hart{Mem: make([]byte, 1024), Regs: make([]uint64, 8), Mode: mode, Sum: d.below(2) == 1, Mxr: d.below(2) == 1}
	h.Caches = impl.Caches{I: emptyTlb(someShape(d)), D: emptyTlb(someShape(d)), P: emptyTlb(someShape(d))}
	for i := 448; i < 896; i++ {
		h.Mem[i] = byte(d.next() >> 20)
	}
	tidyMaps(d, h.Mem, mode)
	tidyEntry(d, &h)
	copy(h.Mem, tidyHandler(d))
	copy(h.Mem[320:], tidyCode(d, mode))
	asid := d.below(3)
	h.Regs[5], h.Pc = asid, 320
	h.Regs[6], h.Regs[7] = satpOn|d.below(3)<<44|[]uint64{1, 15}[d.below(2)], satpOn|asid<<44|1
	h.Satp = h.Regs[7]
	switch d.below(4) {
	case 0:
		copy(h.Mem[32:], slices.Concat(ins(1, 4, 0, 0, 80), ins(4, 4, 4, 0, 2), ins(13, 4, 0, int(mode), 0), ins(12, 0, 0, 0, 0)))
		h.Mode, h.Pc = impl.ModeM, 32
	case 1:
		h.Satp = 0
	}
	picks := make([]int64, steps)
	for i := range picks {
		picks[i] = int64(d.below(256))
	}
	return textOf(h, picks)
}

// tidyMaps lets the virtual pages 0..15 be the physical ones of the same number, but for some of data.
func tidyMaps(d *dice, mem []byte, mode int64) {
	rarelyG := func() uint64 { return d.below(4) / 3 * impl.BitG }
	pointer := func(table uint64) uint64 { return table<<10 | impl.BitV | rarelyG() }
	put8(mem, 64, pointer(2))
	put8(mem, 64+8, codeBits(mode))
	put8(mem, 960, pointer(14))
	put8(mem, 960+8, codeBits(mode))
	for _, table := range []int{128, 896} {
		put8(mem, table, pointer(3))
		put8(mem, table+8, pointer(4))
		put8(mem, table+16, 8*d.below(2)<<10|codeBits(mode)|rarelyG())
	}
	for page := range uint64(16) {
		pte := page<<10 | codeBits(mode) | rarelyG()
		if page >= 7 && d.below(4) == 0 {
			pte = (7+d.below(7))<<10 | pte%1024
		}
		if page >= 7 && d.below(8) == 0 {
			pte ^= 1 << d.below(8)
		}
		put8(mem, 192+8*int(page), pte)
	}
}

// tidyEntry chooses the entry that the program changes: a leaf of level 0, or an entry of level 1.
func tidyEntry(d *dice, h *impl.Hart) {
	page := 7 + d.below(9)
	h.Regs[1], h.Regs[2] = 192+8*page, 64*page+d.below(64)
	h.Regs[3] = (7+d.below(9))<<10 | codeBits(h.Mode) | d.below(4)/3*impl.BitG
	if d.below(4) == 0 {
		h.Regs[1], h.Regs[2] = 128+8, 512+d.below(512)
		h.Regs[3] = []uint64{3<<10 | impl.BitV, 8<<10 | codeBits(h.Mode), 4<<10 | 1<<8 | impl.BitV, 0, 99<<10 | impl.BitV}[d.below(5)]
	}
	if d.below(8) == 0 {
		h.Regs[3] ^= 1 << d.below(8)
	}
}

// tidyHandler does for a program in mode U what it may not do itself.
func tidyHandler(d *dice) []byte {
	back, store, fence := ins(12, 0, 0, 0, 1), ins(6, 3, 1, 3, 0), tidyFence(d)
	switch d.below(4) {
	case 0:
		return back
	case 1:
		return slices.Concat(store, fence, ins(2, 3, 3, 4, 0), back)
	case 2:
		return slices.Concat(ins(7, 3, 1, 0, 0), store, fence, back)
	}
	return slices.Concat(store, fence, ins(9, 6+int(d.below(2)), 0, 0, 0), back)
}

func tidyFence(d *dice) []byte {
	switch d.below(8) {
	case 0, 1:
		return ins(11, 2, 0, 0, 0)
	case 2:
		return ins(11, 0, 5, 0, 0)
	case 3:
		return ins(11, 2, 5, 0, 0)
	}
	return ins(11, 0, 0, 0, 0)
}

// tidyCode fills two pages and then begins anew. In mode U it calls instead of changing and fencing.
func tidyCode(d *dice, mode int64) []byte {
	code := []byte{}
	if mode == impl.ModeS {
		code = ins(9, 7, 0, 0, 0)
	}
	for len(code) < 100 {
		code = append(code, tidyPiece(d, mode)...)
	}
	for len(code) < 124 {
		code = append(code, ins(1, 4, 0, 0, int(d.below(16)))...)
	}
	return append(code, ins(8, 1, 0, 0, -31)...)
}

func tidyPiece(d *dice, mode int64) []byte {
	near := []int{0, 0, 0, 64, -64, 60, -60, 32}[d.below(8)]
	switch d.below(12) {
	case 0, 1, 2:
		return ins(5, 4, 2, int(d.below(4)), near)
	case 3:
		return ins(6, 4, 2, int(d.below(4)), near)
	case 4:
		return ins(7, 4, 2, 5, near)
	case 5:
		return ins(5, 4, 2, 3, near)
	case 6:
		return ins(3, 2, 2, 0, []int{1, -1, 8, -8}[d.below(4)])
	case 7:
		return ins(14, 0, 0, 0, 0)
	}
	if mode == impl.ModeU {
		return ins(14, 0, 0, 0, 0)
	}
	switch d.below(8) {
	case 0:
		return ins(9, 6, 0, 0, 0)
	case 1:
		return slices.Concat(ins(9, 6, 0, 0, 0), tidyFence(d))
	case 2:
		return ins(9, 7, 0, 0, 0)
	case 3:
		return slices.Concat(ins(1, 4, 0, 0, int(d.below(4))), ins(10, 4, 0, 0, 0))
	case 4:
		return slices.Concat(ins(7, 4, 1, 0, 0), ins(6, 3, 1, 3, 0), ins(2, 3, 4, 0, 0), tidyFence(d))
	}
	return slices.Concat(ins(6, 3, 1, 3, 0), tidyFence(d))
}
