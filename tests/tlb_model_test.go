package tests

import (
	"slices"
	"testing"

	"loop.example/s0051/impl"
)

// Chapter 4 told a second time, and caches made up for the tests of promises 5 to 8.

// spanOf is how many bytes an entry of this level covers.
func spanOf(level int64) uint64 {
	return []uint64{64, 512, 4096}[level]
}

func wantTag(va uint64, level int64) uint64 {
	return va % 32768 / spanOf(level)
}

func wantGoodEntry(e impl.Entry, pointers bool) bool {
	if !e.Valid || e.Level < 0 || e.Level > 2 || e.Asid >= 65536 || e.Global != bit(e.Pte, 5) {
		return false
	}
	if e.Tag >= []uint64{512, 64, 8}[e.Level] {
		return false
	}
	if pointers {
		return wantKind(e.Pte, e.Level) == impl.PtePointer
	}
	return wantKind(e.Pte, e.Level) == impl.PteLeaf
}

func wantValid(t impl.Tlb, pointers bool) bool {
	if !slices.Contains([]int64{1, 2, 4, 8}, t.Sets) || !slices.Contains([]int64{1, 2, 3, 4}, t.Ways) || len(t.Entries) != int(t.Sets*t.Ways) {
		return false
	}
	for set := range t.Sets {
		for way := range t.Ways {
			e := t.Entries[set*t.Ways+way]
			if e != (impl.Entry{}) && (!wantGoodEntry(e, pointers) || int64(e.Tag)%t.Sets != set) {
				return false
			}
		}
	}
	return true
}

func wantEither(t impl.Tlb) bool {
	return wantValid(t, false) || wantValid(t, true)
}

func wantFits(e impl.Entry, va uint64, asid uint64) bool {
	return e.Valid && e.Tag == wantTag(va, e.Level) && (e.Global || e.Asid == asid)
}

func wantHit(t impl.Tlb, va uint64, asid uint64) impl.Hit {
	best := impl.Hit{}
	if !wantEither(t) {
		return best
	}
	for i, e := range t.Entries {
		if wantFits(e, va, asid) && (!best.Found || e.Level < best.Level) {
			best = impl.Hit{Found: true, Index: int64(i), Level: e.Level, Pte: e.Pte}
		}
	}
	return best
}

func cloneTlb(t impl.Tlb) impl.Tlb {
	t.Entries = slices.Clone(t.Entries)
	return t
}

func cloneCaches(k impl.Caches) impl.Caches {
	return impl.Caches{I: cloneTlb(k.I), D: cloneTlb(k.D), P: cloneTlb(k.P)}
}

func sameTlb(a, b impl.Tlb) bool {
	return a.Sets == b.Sets && a.Ways == b.Ways && slices.Equal(a.Entries, b.Entries)
}

func sameCaches(a, b impl.Caches) bool {
	return sameTlb(a.I, b.I) && sameTlb(a.D, b.D) && sameTlb(a.P, b.P)
}

func wantInsert(t impl.Tlb, e impl.Entry, pick int64) impl.Tlb {
	out := cloneTlb(t)
	mayLeaf := wantValid(t, false) && wantGoodEntry(e, false)
	mayPointer := wantValid(t, true) && wantGoodEntry(e, true)
	if pick < 0 || pick > 255 || !mayLeaf && !mayPointer {
		return out
	}
	set := out.Entries[int64(e.Tag)%t.Sets*t.Ways:][:t.Ways]
	way := slices.Index(set, impl.Entry{})
	if way < 0 {
		way = int(pick % t.Ways)
	}
	set[way] = e
	return out
}

func wantCovers(f impl.Fence, e impl.Entry) bool {
	if !e.Valid || f.HasVa && (!wantCanonical(f.Va) || e.Tag != wantTag(f.Va, e.Level)) {
		return false
	}
	return !f.HasAsid || !e.Global && e.Asid == f.Asid
}

func wantFlush(t impl.Tlb, f impl.Fence) impl.Tlb {
	out := cloneTlb(t)
	if !wantEither(t) {
		return out
	}
	for i, e := range out.Entries {
		if wantCovers(f, e) {
			out.Entries[i] = impl.Entry{}
		}
	}
	return out
}

func flushAll(k impl.Caches, f impl.Fence) impl.Caches {
	return impl.Caches{I: impl.Flush(k.I, f), D: impl.Flush(k.D, f), P: impl.Flush(k.P, f)}
}

// overwrite spoils all memory that a list has, past its length too.
func overwrite(es []impl.Entry) {
	es = es[:cap(es)]
	for i := range es {
		es[i] = impl.Entry{Valid: true, Level: 99, Tag: 98, Asid: 97, Pte: 96}
	}
}

// roomy gives a list spare memory behind its length, which no call may write into.
func roomy(es []impl.Entry) []impl.Entry {
	out := make([]impl.Entry, len(es), len(es)+6)
	copy(out, es)
	return out
}

func emptyTlb(sets int64, ways int64) impl.Tlb {
	return impl.Tlb{Sets: sets, Ways: ways, Entries: make([]impl.Entry, sets*ways)}
}

// leafAt and pointerAt make good entries that tell their level, tag and asid by nothing but these.
func leafAt(level int64, tag uint64, asid uint64, bits uint64) impl.Entry {
	pte := 64<<10 | bits | impl.BitV | impl.BitR
	return impl.Entry{Valid: true, Level: level, Tag: tag, Asid: asid, Global: bit(pte, 5), Pte: pte}
}

func pointerAt(level int64, tag uint64, asid uint64, table uint64, bits uint64) impl.Entry {
	pte := table<<10 | bits | impl.BitV
	return impl.Entry{Valid: true, Level: level, Tag: tag, Asid: asid, Global: bit(pte, 5), Pte: pte}
}

// entryAt is of the sense that is asked for.
func entryAt(pointers bool, level int64, tag uint64, asid uint64, bits uint64) impl.Entry {
	if pointers {
		return pointerAt(level, tag, asid, 64, bits)
	}
	return leafAt(level, tag, asid, bits)
}

// lowestOf is the lowest level that an entry of this sense may have.
func lowestOf(pointers bool) int64 {
	if pointers {
		return 1
	}
	return 0
}

// crowdedVa comes from few pages, so that generated entries and addresses meet often.
func crowdedVa(d *dice) uint64 {
	low := d.below(2)<<12 | d.below(2)<<9 | d.below(4)<<6 | d.below(64)
	if d.below(4) == 0 {
		return low - 1<<14
	}
	return low
}

func crowdedAsid(d *dice) uint64 {
	return []uint64{0, 1, 65535}[d.below(3)]
}

func someKept(d *dice, pointers bool, pages uint64) impl.Entry {
	level := lowestOf(pointers) + int64(d.below(uint64(3-lowestOf(pointers))))
	pte := d.below(pages)<<10 | d.below(2)*d.below(2)*impl.BitG | d.below(4)<<8 | impl.BitV
	if !pointers {
		aligned := d.below(pages) << (3 * level)
		pte = aligned<<10 | pte%1024 | []uint64{impl.BitR, impl.BitX, impl.BitR | impl.BitW, impl.BitR | impl.BitW | impl.BitX}[d.below(4)]
		pte |= d.below(2)*impl.BitU | min(d.below(4), 1)*impl.BitA | min(d.below(4), 1)*impl.BitD
	}
	return impl.Entry{Valid: true, Level: level, Tag: wantTag(crowdedVa(d), level), Asid: crowdedAsid(d), Global: bit(pte, 5), Pte: pte}
}

func someShape(d *dice) (int64, int64) {
	return 1 << d.below(4), 1 + int64(d.below(4))
}

// someTlb is valid; several of its entries may fit one address.
func someTlb(d *dice, pointers bool, pages uint64) impl.Tlb {
	out := emptyTlb(someShape(d))
	for range d.below(2 * uint64(len(out.Entries)+1)) {
		e := someKept(d, pointers, pages)
		out.Entries[int64(e.Tag)%out.Sets*out.Ways+int64(d.below(uint64(out.Ways)))] = e
	}
	return out
}

func someCaches(d *dice, pages uint64) impl.Caches {
	return impl.Caches{I: someTlb(d, false, pages), D: someTlb(d, false, pages), P: someTlb(d, true, pages)}
}

func someFence(d *dice) impl.Fence {
	f := impl.Fence{HasVa: d.below(2) == 1, Va: crowdedVa(d), HasAsid: d.below(2) == 1, Asid: crowdedAsid(d)}
	if d.below(8) == 0 {
		f.Va ^= 1 << (14 + d.below(50))
	}
	if d.below(8) == 0 {
		f.Asid = 65536 + f.Asid
	}
	return f
}

// Each answer is held against chapter 4, and each argument against what it was before.

func checkLookup(t *testing.T, tlb impl.Tlb, va uint64, asid uint64) impl.Hit {
	t.Helper()
	before := cloneTlb(tlb)
	got, want := impl.Lookup(tlb, va, asid), wantHit(before, va, asid)
	if got != want {
		t.Fatalf("lookup of %#x in space %d of %+v: %+v, want %+v", va, asid, tlb, got, want)
	}
	if !sameTlb(tlb, before) {
		t.Fatalf("lookup of %#x in space %d wrote into its argument", va, asid)
	}
	return got
}

func checkInsert(t *testing.T, tlb impl.Tlb, e impl.Entry, pick int64) impl.Tlb {
	t.Helper()
	before := cloneTlb(tlb)
	tlb.Entries = roomy(tlb.Entries)
	want := wantInsert(before, e, pick)
	got := impl.Insert(tlb, e, pick)
	if !sameTlb(got, want) {
		t.Fatalf("insert of %+v with pick %d into %+v: %+v, want %+v", e, pick, before, got, want)
	}
	wantApart(t, "insert", tlb, before, got)
	return want
}

func checkFlush(t *testing.T, tlb impl.Tlb, f impl.Fence) impl.Tlb {
	t.Helper()
	before := cloneTlb(tlb)
	tlb.Entries = roomy(tlb.Entries)
	want := wantFlush(before, f)
	got := impl.Flush(tlb, f)
	if !sameTlb(got, want) {
		t.Fatalf("flush of %+v with %+v: %+v, want %+v", before, f, got, want)
	}
	wantApart(t, "flush", tlb, before, got)
	return want
}

// wantApart spoils the answer: the argument, whose list has room behind it, must stay as it was.
func wantApart(t *testing.T, what string, argument impl.Tlb, before impl.Tlb, answer impl.Tlb) {
	t.Helper()
	overwrite(answer.Entries)
	rest := argument.Entries[len(argument.Entries):cap(argument.Entries)]
	if !sameTlb(argument, before) || slices.ContainsFunc(rest, func(e impl.Entry) bool { return e != impl.Entry{} }) {
		t.Fatalf("%s: the argument was written into or is shared: %+v, was %+v", what, argument, before)
	}
}
