package tests

import (
	"bytes"
	"math"
	"testing"

	"loop.example/s0051/impl"
)

// The tests of promises 6 and 7: TlbTranslate with empty caches is PlainTranslate, and with any valid caches it is 4.3.

func wantCachesValid(k impl.Caches) bool {
	return wantValid(k.I, false) && wantValid(k.D, false) && wantValid(k.P, true)
}

func asidOf(c impl.Ctx) uint64 {
	return c.Satp / (1 << 44) % 65536
}

func isOn(c impl.Ctx) bool {
	return c.Satp/(1<<60) == 8 && (c.Mode == impl.ModeU || c.Mode == impl.ModeS)
}

// cacheOf is where a translation of this kind looks for leaves.
func cacheOf(k *impl.Caches, kind int64) *impl.Tlb {
	if kind == impl.KindFetch {
		return &k.I
	}
	return &k.D
}

func wantCached(mem []byte, c impl.Ctx, k impl.Caches, kind int64, va uint64, pick int64) impl.TlbTrans {
	if !wantCachesValid(k) || kind < 0 || kind > 2 || c.Mode < 0 || c.Mode > 2 || pick < 0 || pick > 255 {
		return impl.TlbTrans{Cause: 63}
	}
	out := impl.TlbTrans{Caches: cloneCaches(k)}
	page, access := []int64{12, 13, 15}[kind], []int64{1, 5, 7}[kind]
	leaves, asid := cacheOf(&out.Caches, kind), asidOf(c)
	switch hit := wantHit(*leaves, va, asid); {
	case !isOn(c):
		out.Pa = va
		return out
	case !wantCanonical(va):
		out.Cause = page
		return out
	case hit.Found && wantGranted(hit.Pte, kind, c.Mode, c.Sum, c.Mxr):
		out.Pa = wantPhys(hit.Pte, hit.Level, va)
		return out
	case hit.Found:
		out.Cause = page
		return out
	}
	table, level := c.Satp%(1<<44), int64(2)
	if hit := wantHit(out.Caches.P, va, asid); hit.Found {
		table, level = ppnOf(hit.Pte), hit.Level-1
	}
	for ; ; level-- {
		read := wantRead(mem, 64*table+8*(va/spanOf(level)%8), 8)
		pte := read.Val
		e := impl.Entry{Valid: true, Level: level, Tag: wantTag(va, level), Asid: asid, Global: bit(pte, 5), Pte: pte}
		kept := wantKind(pte, level)
		switch {
		case !read.Ok:
			out.Cause = access
			return out
		case kept == impl.PteLeaf && wantGranted(pte, kind, c.Mode, c.Sum, c.Mxr):
			*leaves = wantInsert(*leaves, e, pick)
			out.Pa = wantPhys(pte, level, va)
			return out
		case kept != impl.PtePointer:
			out.Cause = page
			return out
		}
		out.Caches.P = wantInsert(out.Caches.P, e, pick)
		table = ppnOf(pte)
	}
}

func sameTlbTrans(a, b impl.TlbTrans) bool {
	return a.Cause == b.Cause && a.Pa == b.Pa && sameCaches(a.Caches, b.Caches)
}

// checkCached holds the answer against 4.3 and against promise 7.
func checkCached(t *testing.T, mem []byte, c impl.Ctx, k impl.Caches, kind int64, va uint64, pick int64) impl.TlbTrans {
	t.Helper()
	memBefore, before := bytes.Clone(mem), cloneCaches(k)
	got, want := impl.TlbTranslate(mem, c, k, kind, va, pick), wantCached(memBefore, c, before, kind, va, pick)
	if !sameTlbTrans(got, want) {
		t.Fatalf("%+v, kind %d, va %#x, pick %d, caches %+v:\n%+v, want\n%+v", c, kind, va, pick, before, got, want)
	}
	if !bytes.Equal(mem, memBefore) || !sameCaches(k, before) {
		t.Fatalf("%+v, kind %d, va %#x, pick %d: an argument was written into", c, kind, va, pick)
	}
	if got.Cause == impl.CauseBad {
		return got
	}
	if !impl.ValidTlb(got.Caches.I, false) || !impl.ValidTlb(got.Caches.D, false) || !impl.ValidTlb(got.Caches.P, true) {
		t.Fatalf("%+v, kind %d, va %#x, pick %d: the caches are not valid any more: %+v", c, kind, va, pick, got.Caches)
	}
	if isOn(c) && got.Cause == impl.CauseNone {
		hit := impl.Lookup(*cacheOf(&got.Caches, kind), va, asidOf(c))
		if !hit.Found || !impl.Granted(hit.Pte, kind, c.Mode, c.Sum, c.Mxr) || got.Pa != impl.PhysOf(hit.Pte, hit.Level, va) {
			t.Fatalf("%+v, kind %d, va %#x, pick %d: %+v, but the cache holds %+v", c, kind, va, pick, got, hit)
		}
	}
	return got
}

func emptyCaches(shape int64) impl.Caches {
	sets := []int64{1, 2, 4, 8}
	return impl.Caches{I: emptyTlb(sets[shape%4], 1+shape/4%4), D: emptyTlb(sets[(shape+1)%4], 1+(shape+2)/4%4), P: emptyTlb(sets[(shape+2)%4], 1+(shape+1)%4)}
}

func checkEmpty(t *testing.T, mem []byte, c impl.Ctx, shape int64, kind int64, va uint64) impl.TlbTrans {
	t.Helper()
	got := checkCached(t, mem, c, emptyCaches(shape), kind, va, shape*16%256)
	if plain := impl.PlainTranslate(mem, c, kind, va); got.Cause != plain.Cause || got.Pa != plain.Pa {
		t.Fatalf("%+v, kind %d, va %#x, empty caches of shape %d: %+v, plain %+v", c, kind, va, shape, got, plain)
	}
	return got
}

// Every page of the example, on and off, for each kind and mode, in empty caches of every shape.
func TestEmptyCachesOnTheExample(t *testing.T) {
	mem := exampleMem()
	for shape := range int64(16) {
		for kind := range int64(3) {
			for mode := range int64(3) {
				for _, satp := range []uint64{satpOn | 1, satpOn | 77<<44 | 1, satpOn | 16, 1, 9<<60 | 1, 0} {
					for page := range uint64(70) {
						c := impl.Ctx{Mode: mode, Satp: satp}
						checkEmpty(t, mem, c, shape, kind, 64*page+5)
						checkEmpty(t, mem, c, shape, kind, 512*page+64)
						checkEmpty(t, mem, c, shape, kind, -(64 * page))
					}
				}
			}
		}
	}
}

// Walks that end at each level with each code, under every context.
func TestEmptyCachesEachEndAtEachLevel(t *testing.T) {
	ends := map[int64]int{}
	for level := range 3 {
		for low := range uint64(256) {
			for _, upper := range []uint64{64 << 10, 1 << 54, 1 << 10, 1000 << 10, 1<<54 - 1<<16} {
				mem := make([]byte, 256)
				put8(mem, 0, 1<<10|impl.BitV)
				put8(mem, 64, 2<<10|impl.BitV|impl.BitG)
				put8(mem, []int{128, 64, 0}[level], upper|low)
				for kind := range int64(3) {
					for flags := range int64(8) {
						c := impl.Ctx{Mode: flags / 4, Sum: flags%2 == 1, Mxr: flags/2%2 == 1, Satp: satpOn}
						ends[checkEmpty(t, mem, c, int64(low+upper)%16, kind, 13).Cause]++
					}
				}
			}
		}
	}
	for _, cause := range []int64{0, 1, 5, 7, 12, 13, 15} {
		if ends[cause] < 90 {
			t.Errorf("cause %d came only %d times", cause, ends[cause])
		}
	}
}

func TestEmptyCachesGenerated(t *testing.T) {
	d := dice(6006)
	seen := map[int64]int{}
	sizes := []int{64, 256, 1024, 4096, 0, 7, 63, 130}
	for round := range 2000 {
		mem := someTables(&d, sizes[round%len(sizes)])
		for range 30 {
			c := impl.Ctx{Mode: int64(d.below(3)) % 2, Sum: d.below(2) == 1, Mxr: d.below(2) == 1, Satp: satpOn | d.below(1<<16)<<44 | d.below(uint64(len(mem)/64+1))}
			if d.below(16) == 0 {
				c.Mode, c.Satp = int64(d.below(3)), d.next()
			}
			seen[checkEmpty(t, mem, c, int64(d.below(16)), int64(d.below(3)), someVa(&d)).Cause]++
		}
	}
	for _, cause := range []int64{0, 1, 5, 7, 12, 13, 15} {
		if seen[cause] < 100 {
			t.Errorf("cause %d came only %d times", cause, seen[cause])
		}
	}
}

func superCtx(asid uint64) impl.Ctx {
	return impl.Ctx{Mode: impl.ModeS, Satp: satpOn | asid<<44 | 1}
}

// The loads with caches of the document's chapter Examples.
func TestCachedExample(t *testing.T) {
	mem := exampleMem()
	c := superCtx(0)
	empty := impl.Caches{I: emptyTlb(1, 2), D: emptyTlb(2, 2), P: emptyTlb(1, 2)}
	first := checkCached(t, mem, c, empty, impl.KindLoad, 69, 0)
	want := cloneCaches(empty)
	want.P.Entries = []impl.Entry{{Valid: true, Level: 2, Pte: 2049}, {Valid: true, Level: 1, Pte: 3073}}
	want.D.Entries[2] = impl.Entry{Valid: true, Tag: 1, Pte: 7375}
	if !sameTlbTrans(first, impl.TlbTrans{Pa: 453, Caches: want}) {
		t.Errorf("the first load: %+v", first)
	}
	put8(mem, 200, 9423)
	second := checkCached(t, mem, c, first.Caches, impl.KindLoad, 69, 0)
	if !sameTlbTrans(second, first) {
		t.Errorf("the leaf is kept: %+v", second)
	}
	if plain := impl.PlainTranslate(mem, c, impl.KindLoad, 69); plain.Pa != 581 {
		t.Errorf("plain: %+v", plain)
	}
	fenced := second.Caches
	fenced.D = impl.Flush(fenced.D, impl.Fence{})
	third := checkCached(t, mem, c, fenced, impl.KindLoad, 69, 0)
	want.D.Entries[2].Pte = 9423
	if !sameTlbTrans(third, impl.TlbTrans{Pa: 581, Caches: want}) {
		t.Errorf("after the fence: %+v", third)
	}
	clear(mem[:192])
	if again := checkCached(t, mem, c, fenced, impl.KindLoad, 69, 0); !sameTlbTrans(again, third) {
		t.Errorf("the entry at 200 alone is read: %+v", again)
	}
}

// A leaf of every sign stands in the caches: each hit asks for permission again, and memory is not looked at.
func TestCachedHitIsAskedAgain(t *testing.T) {
	granted := map[bool]int{}
	for level := range int64(3) {
		for low := range uint64(256) {
			pte := 5<<16 | low
			if wantKind(pte, level) != impl.PteLeaf {
				continue
			}
			e := impl.Entry{Valid: true, Level: level, Tag: wantTag(1<<12|1<<9|1<<6, level), Asid: 3, Global: bit(pte, 5), Pte: pte}
			k := impl.Caches{I: emptyTlb(1, 1), D: emptyTlb(1, 1), P: emptyTlb(1, 1)}
			k.I.Entries[0], k.D.Entries[0] = e, e
			for kind := range int64(3) {
				for flags := range int64(8) {
					c := impl.Ctx{Mode: flags / 4, Sum: flags%2 == 1, Mxr: flags/2%2 == 1, Satp: satpOn | 3<<44}
					got := checkCached(t, nil, c, k, kind, 1<<12|1<<9|1<<6|11, 9)
					if !sameCaches(got.Caches, k) || (got.Cause != 0 && got.Pa != 0) || got.Cause == 5 || got.Cause == 1 || got.Cause == 7 {
						t.Fatalf("pte %#x, %+v, kind %d: %+v", pte, c, kind, got)
					}
					granted[got.Cause == 0]++
				}
			}
		}
	}
	if granted[true] < 100 || granted[false] < 100 {
		t.Errorf("granted and not: %v", granted)
	}
}

// A hit that is not granted ends the translation, though memory has a better leaf by now.
func TestCachedDeniedHitDoesNotWalk(t *testing.T) {
	mem := exampleMem()
	k := impl.Caches{I: emptyTlb(1, 4), D: emptyTlb(1, 4), P: emptyTlb(1, 4)}
	user := leafAt(0, 1, 0, impl.BitU|impl.BitX|impl.BitA)
	k.I.Entries[1], k.D.Entries[2] = user, user
	rows := []struct {
		c     impl.Ctx
		kind  int64
		cause int64
	}{
		{impl.Ctx{Mode: impl.ModeS, Satp: satpOn | 1}, impl.KindFetch, impl.CauseFetchPage},
		{impl.Ctx{Mode: impl.ModeS, Sum: true, Satp: satpOn | 1}, impl.KindFetch, impl.CauseFetchPage},
		{impl.Ctx{Mode: impl.ModeU, Satp: satpOn | 1}, impl.KindFetch, impl.CauseNone},
		{impl.Ctx{Mode: impl.ModeS, Satp: satpOn | 1}, impl.KindLoad, impl.CauseLoadPage},
		{impl.Ctx{Mode: impl.ModeS, Sum: true, Satp: satpOn | 1}, impl.KindLoad, impl.CauseNone},
		{impl.Ctx{Mode: impl.ModeU, Satp: satpOn | 1}, impl.KindLoad, impl.CauseNone},
		{impl.Ctx{Mode: impl.ModeU, Satp: satpOn | 1}, impl.KindStore, impl.CauseStorePage},
		{impl.Ctx{Mode: impl.ModeS, Sum: true, Mxr: true, Satp: satpOn | 1}, impl.KindStore, impl.CauseStorePage},
		{impl.Ctx{Mode: impl.ModeM, Satp: satpOn | 1}, impl.KindStore, impl.CauseNone},
	}
	for _, r := range rows {
		got := checkCached(t, mem, r.c, k, r.kind, 69, 0)
		if got.Cause != r.cause || !sameCaches(got.Caches, k) {
			t.Errorf("%+v, kind %d: %+v, want cause %d", r.c, r.kind, got, r.cause)
		}
	}
}

// With Mxr, a load finds what only a fetch could use otherwise; without it the same hit is a fault.
func TestCachedMxr(t *testing.T) {
	k := impl.Caches{I: emptyTlb(1, 1), D: emptyTlb(1, 1), P: emptyTlb(1, 1)}
	pte := uint64(9<<10 | impl.BitV | impl.BitX | impl.BitA)
	k.D.Entries[0] = impl.Entry{Valid: true, Tag: 1, Pte: pte}
	c := superCtx(0)
	if got := checkCached(t, nil, c, k, impl.KindLoad, 70, 0); got.Cause != impl.CauseLoadPage {
		t.Errorf("without Mxr: %+v", got)
	}
	c.Mxr = true
	if got := checkCached(t, nil, c, k, impl.KindLoad, 70, 0); got.Pa != 9*64+6 {
		t.Errorf("with Mxr: %+v", got)
	}
}

// Fetches look into I alone, loads and stores into D alone.
func TestCachedKindsHaveTheirCaches(t *testing.T) {
	mem := exampleMem()
	for kind := range int64(3) {
		for other := range int64(3) {
			first := checkCached(t, mem, superCtx(4), emptyCaches(5), kind, 69, 0)
			changed := bytes.Clone(mem)
			put8(changed, 200, 9423)
			second := checkCached(t, changed, superCtx(4), first.Caches, other, 69, 0)
			want := uint64(581)
			if (kind == impl.KindFetch) == (other == impl.KindFetch) {
				want = 453
			}
			if second.Pa != want {
				t.Errorf("kind %d after %d: %+v, want %d", other, kind, second, want)
			}
		}
	}
}

// The lowest level is taken where leaves of several levels are kept.
func TestCachedLowestLeafFirst(t *testing.T) {
	k := emptyCaches(15)
	leaves := []impl.Entry{
		{Valid: true, Level: 2, Tag: 0, Asid: 1, Pte: 64<<10 | 207},
		{Valid: true, Level: 1, Tag: 0, Asid: 1, Pte: 8<<10 | 207},
		{Valid: true, Level: 0, Tag: 0, Asid: 1, Pte: 3<<10 | 207},
	}
	wants := []uint64{64*64 + 5, 8*64 + 5, 3*64 + 5}
	for i, e := range leaves {
		k.D = impl.Insert(k.D, e, 0)
		if got := checkCached(t, nil, superCtx(1), k, impl.KindLoad, 5, 0); got.Pa != wants[i] {
			t.Errorf("with %d leaves: %+v, want %d", i+1, got, wants[i])
		}
	}
	if got := checkCached(t, nil, superCtx(2), k, impl.KindLoad, 5, 0); got.Cause != impl.CauseLoadAccess {
		t.Errorf("of another space: %+v", got)
	}
}

// deepMem has two chains of tables: root at page 1, and for each level two tables (pages 2 and 4, 3 and 5).
func deepMem() []byte {
	mem := make([]byte, 1024)
	put8(mem, 64, 2<<10|impl.BitV)
	put8(mem, 128, 3<<10|impl.BitV)
	put8(mem, 192, 10<<10|207)
	put8(mem, 256, 5<<10|impl.BitV|impl.BitG)
	put8(mem, 320, 11<<10|207)
	put8(mem, 264, 8<<10|207)
	return mem
}

func TestCachedWalkGoesOnFromAKeptPointer(t *testing.T) {
	top, other := pointerAt(2, 0, 6, 2, 0), pointerAt(2, 0, 6, 4, 0)
	low, far := pointerAt(1, 0, 6, 3, 0), pointerAt(1, 0, 6, 5, 0)
	global := pointerAt(1, 0, 9, 5, impl.BitG)
	read := impl.Entry{Valid: true, Level: 1, Asid: 6, Global: true, Pte: 5<<10 | impl.BitV | impl.BitG}
	rows := []struct {
		name string
		kept []impl.Entry
		root uint64
		pa   uint64
		then []impl.Entry
	}{
		{"nothing kept", nil, 2049, 10 * 64, []impl.Entry{top, low, {}, {}}},
		{"level 2", []impl.Entry{top}, 0, 10 * 64, []impl.Entry{top, low, {}, {}}},
		{"level 2, its table elsewhere", []impl.Entry{other}, 2049, 11 * 64, []impl.Entry{other, read, {}, {}}},
		{"level 1", []impl.Entry{low}, 0, 10 * 64, []impl.Entry{low, {}, {}, {}}},
		{"level 1, its table elsewhere", []impl.Entry{far}, 2049, 11 * 64, []impl.Entry{far, {}, {}, {}}},
		{"level 1 ahead of level 2", []impl.Entry{top, far}, 2049, 11 * 64, []impl.Entry{top, far, {}, {}}},
		{"the first of two", []impl.Entry{low, far}, 2049, 10 * 64, []impl.Entry{low, far, {}, {}}},
		{"a global one of another space", []impl.Entry{global}, 2049, 11 * 64, []impl.Entry{global, {}, {}, {}}},
		{"one of another space", []impl.Entry{pointerAt(1, 0, 9, 5, 0)}, 2049, 10 * 64, []impl.Entry{pointerAt(1, 0, 9, 5, 0), top, low, {}}},
		{"one of another tag", []impl.Entry{pointerAt(1, 1, 6, 5, 0), pointerAt(2, 1, 6, 4, 0)}, 2049, 10 * 64, []impl.Entry{pointerAt(1, 1, 6, 5, 0), pointerAt(2, 1, 6, 4, 0), top, low}},
	}
	for _, r := range rows {
		for kind := range int64(3) {
			mem := deepMem()
			put8(mem, 64, r.root)
			k := impl.Caches{I: emptyTlb(1, 2), D: emptyTlb(1, 2), P: emptyTlb(1, 4)}
			copy(k.P.Entries, r.kept)
			got := checkCached(t, mem, superCtx(6), k, kind, 0, 3)
			if got.Cause != 0 || got.Pa != r.pa || !sameTlb(got.Caches.P, impl.Tlb{Sets: 1, Ways: 4, Entries: r.then}) {
				t.Errorf("%s, kind %d: %+v, want address %d and pointers %+v", r.name, kind, got, r.pa, r.then)
			}
		}
	}
}

// A large leaf behind a kept pointer of level 2, and a kept pointer to a table that is not there.
func TestCachedWalkBehindKeptPointers(t *testing.T) {
	mem := deepMem()
	k := impl.Caches{I: emptyTlb(1, 2), D: emptyTlb(1, 2), P: emptyTlb(1, 4)}
	k.P.Entries[0] = pointerAt(2, 0, 6, 4, 0)
	if got := checkCached(t, mem, superCtx(6), k, impl.KindLoad, 512+70, 0); got.Pa != 8*64+70 || got.Caches.D.Entries[0] != (impl.Entry{Valid: true, Level: 1, Tag: 1, Asid: 6, Pte: 8<<10 | 207}) {
		t.Errorf("a leaf of level 1: %+v", got)
	}
	if got := checkCached(t, mem, superCtx(6), k, impl.KindLoad, 1024, 0); got.Cause != impl.CauseLoadPage || !sameCaches(got.Caches, k) {
		t.Errorf("no entry there: %+v", got)
	}
	for _, level := range []int64{1, 2} {
		for _, table := range []uint64{16, 1 << 20, allPpn} {
			k.P.Entries[0] = pointerAt(level, 0, 6, table, 0)
			if got := checkCached(t, mem, superCtx(6), k, impl.KindStore, 0, 0); got.Cause != impl.CauseStoreAccess || !sameCaches(got.Caches, k) {
				t.Errorf("a table at page %d: %+v", table, got)
			}
		}
	}
}

// Pointers that were read stay, though the walk ends in a fault or at a leaf that is not granted.
func TestCachedFaultKeepsPointers(t *testing.T) {
	last := []uint64{0, impl.BitV | impl.BitW, 1 << 54, impl.BitV | impl.BitR, impl.BitV | impl.BitR | impl.BitA | impl.BitU, impl.BitV}
	for _, pte := range last {
		for level := range int64(3) {
			mem := deepMem()
			put8(mem, []int{192, 128, 64}[level], pte)
			if level > 0 && pte == impl.BitV {
				put8(mem, []int{0, 128, 64}[level], 1000<<10|impl.BitV)
			}
			for kind := range int64(3) {
				got := checkCached(t, mem, superCtx(6), impl.Caches{I: emptyTlb(2, 2), D: emptyTlb(2, 2), P: emptyTlb(2, 2)}, kind, 0, 0)
				if got.Cause == 0 || got.Pa != 0 || got.Caches.I.Entries[0].Valid || got.Caches.D.Entries[0].Valid {
					t.Errorf("entry %#x at level %d: %+v", pte, level, got)
				}
				pointers := 2 - level
				if level > 0 && pte == impl.BitV {
					pointers++
				}
				for i, e := range got.Caches.P.Entries {
					if e.Valid != (int64(i) < pointers) {
						t.Errorf("entry %#x at level %d: %+v, want %d pointers", pte, level, got.Caches.P, pointers)
					}
				}
			}
		}
	}
}

// In a cache of one place the last pointer stays; in a full set pick tells what goes.
func TestCachedInsertsByPick(t *testing.T) {
	mem := deepMem()
	for ways := int64(1); ways <= 4; ways++ {
		for pick := range int64(256) {
			k := impl.Caches{I: emptyTlb(1, ways), D: emptyTlb(1, ways), P: emptyTlb(1, ways)}
			for i := range ways {
				k.D.Entries[i] = leafAt(0, 100+uint64(i), 6, 0)
				k.P.Entries[i] = pointerAt(1, 40+uint64(i), 6, 0, 0)
			}
			got := checkCached(t, mem, superCtx(6), k, impl.KindLoad, 0, pick)
			if got.Caches.P.Entries[pick%ways].Level != 1 || got.Caches.P.Entries[pick%ways].Tag != 0 || got.Caches.D.Entries[pick%ways].Tag != 0 || !sameTlb(got.Caches.I, k.I) {
				t.Fatalf("%d ways, pick %d: %+v", ways, pick, got.Caches)
			}
		}
	}
}

// Global is the entry's own bit G; the address space is that of Satp even so.
func TestCachedGlobalBits(t *testing.T) {
	for g := range uint64(8) {
		mem := deepMem()
		put8(mem, 64, 2<<10|impl.BitV|g&1*impl.BitG)
		put8(mem, 128, 3<<10|impl.BitV|g>>1&1*impl.BitG)
		put8(mem, 192, 10<<10|207|g>>2&1*impl.BitG)
		got := checkCached(t, mem, superCtx(65535), impl.Caches{I: emptyTlb(1, 1), D: emptyTlb(1, 1), P: emptyTlb(1, 2)}, impl.KindStore, 0, 0)
		p, leaf := got.Caches.P.Entries, got.Caches.D.Entries[0]
		if p[0].Global != bit(g, 0) || p[1].Global != bit(g, 1) || leaf.Global != bit(g, 2) || p[0].Asid != 65535 || p[1].Asid != 65535 || leaf.Asid != 65535 {
			t.Errorf("bits %03b: %+v", g, got.Caches)
		}
	}
}

// Off and not canonical: the caches stay, even where an entry would fit.
func TestCachedOffAndNotCanonical(t *testing.T) {
	mem := exampleMem()
	k := checkCached(t, mem, superCtx(0), emptyCaches(3), impl.KindLoad, 69, 0).Caches
	k.I = cloneTlb(k.D)
	for kind := range int64(3) {
		for _, c := range []impl.Ctx{{Mode: impl.ModeM, Satp: satpOn | 1}, {Mode: impl.ModeS, Satp: 1}, {Mode: impl.ModeU, Satp: 7<<60 | 1}, {Mode: impl.ModeU, Satp: math.MaxUint64}} {
			for _, va := range []uint64{0, 69, 1 << 14, 1 << 63, math.MaxUint64} {
				if got := checkCached(t, mem, c, k, kind, va, 0); got.Cause != 0 || got.Pa != va || !sameCaches(got.Caches, k) {
					t.Errorf("%+v, kind %d, va %#x: %+v", c, kind, va, got)
				}
			}
		}
		for i := 14; i < 64; i++ {
			got := checkCached(t, mem, superCtx(0), k, kind, 69^1<<i, 0)
			if got.Cause != []int64{12, 13, 15}[kind] || got.Pa != 0 || !sameCaches(got.Caches, k) {
				t.Errorf("kind %d, va %#x: %+v", kind, 69^1<<i, got)
			}
		}
	}
}

func wantBad(t *testing.T, c impl.Ctx, k impl.Caches, kind int64, va uint64, pick int64) {
	t.Helper()
	got := checkCached(t, exampleMem(), c, k, kind, va, pick)
	if got.Cause != impl.CauseBad || got.Pa != 0 || !sameCaches(got.Caches, impl.Caches{}) {
		t.Errorf("%+v, kind %d, va %#x, pick %d: %+v", c, kind, va, pick, got)
	}
}

func TestCachedWrongArguments(t *testing.T) {
	for _, va := range []uint64{69, 1024, 1 << 14} {
		for _, c := range []impl.Ctx{superCtx(0), {Mode: impl.ModeM}, {Mode: impl.ModeS}} {
			for _, wrong := range wrongSmalls {
				wantBad(t, c, emptyCaches(1), wrong, va, 0)
				wantBad(t, impl.Ctx{Mode: wrong, Satp: c.Satp}, emptyCaches(1), impl.KindLoad, va, 0)
			}
			for _, pick := range []int64{-1, 256, 257, -256, 1 << 32, math.MinInt64, math.MaxInt64} {
				wantBad(t, c, emptyCaches(1), impl.KindLoad, va, pick)
			}
			for _, pick := range []int64{0, 127, 128, 255} {
				if got := checkCached(t, exampleMem(), c, emptyCaches(1), impl.KindLoad, va, pick); got.Cause == impl.CauseBad {
					t.Errorf("pick %d: %+v", pick, got)
				}
			}
		}
	}
}

// One wrong cache of the three is enough, whatever the kind and whether translation is on.
func TestCachedWrongCaches(t *testing.T) {
	leaves, pointers := emptyTlb(1, 2), emptyTlb(1, 2)
	leaves.Entries[1], pointers.Entries[1] = leafAt(1, 3, 3, 0), pointerAt(1, 3, 3, 3, 0)
	wrong := []impl.Caches{{}}
	for _, tlb := range wrongTlbs() {
		wrong = append(wrong, impl.Caches{I: tlb, D: leaves, P: pointers}, impl.Caches{I: leaves, D: tlb, P: pointers}, impl.Caches{I: leaves, D: leaves, P: tlb})
	}
	wrong = append(wrong, impl.Caches{I: pointers, D: leaves, P: pointers}, impl.Caches{I: leaves, D: pointers, P: pointers}, impl.Caches{I: leaves, D: leaves, P: leaves})
	for _, k := range wrong {
		for kind := range int64(3) {
			for _, c := range []impl.Ctx{superCtx(0), {Mode: impl.ModeM}} {
				wantBad(t, c, k, kind, 69, 0)
				wantBad(t, c, k, kind, 1<<14, 0)
			}
		}
	}
}

// What was handed in may share memory; the three caches of the answer share none, with it or with each other.
func TestCachedAnswersShareNothing(t *testing.T) {
	shape := impl.Tlb{Sets: 1, Ways: 2, Entries: roomy(make([]impl.Entry, 2))}
	for _, va := range []uint64{69, 582, 1024, 1536, 1 << 14} {
		for _, c := range []impl.Ctx{superCtx(0), {Mode: impl.ModeM}} {
			for kind := range int64(3) {
				k := impl.Caches{I: shape, D: shape, P: shape}
				want := wantCached(exampleMem(), c, k, kind, va, 0).Caches
				for spoiled := range 3 {
					got := impl.TlbTranslate(exampleMem(), c, k, kind, va, 0).Caches
					lists := []*impl.Tlb{&got.I, &got.D, &got.P}
					overwrite(lists[spoiled].Entries)
					*lists[spoiled] = []impl.Tlb{want.I, want.D, want.P}[spoiled]
					if !sameCaches(got, want) {
						t.Errorf("va %d, kind %d: two caches of the answer share memory", va, kind)
					}
					for _, e := range shape.Entries[:cap(shape.Entries)] {
						if e != (impl.Entry{}) {
							t.Fatalf("va %d, kind %d: the answer shares memory with the argument", va, kind)
						}
					}
				}
			}
		}
	}
}

// wayOf names how a translation came to its answer, for the counts of the generated tests.
func wayOf(c impl.Ctx, k impl.Caches, kind int64, va uint64, got impl.TlbTrans) string {
	end := map[int64]string{0: "leaf", 1: "access", 5: "access", 7: "access", 12: "page", 13: "page", 15: "page"}[got.Cause]
	if !isOn(c) {
		return "off"
	}
	if !wantCanonical(va) {
		return "not canonical"
	}
	if wantHit(*cacheOf(&k, kind), va, asidOf(c)).Found {
		return "hit " + end
	}
	from := "root "
	if p := wantHit(k.P, va, asidOf(c)); p.Found {
		from = []string{"", "level 1 ", "level 2 "}[p.Level]
	}
	return from + end
}

func crowdedCtx(d *dice, pages uint64) impl.Ctx {
	c := impl.Ctx{Mode: int64(d.below(2)), Sum: d.below(2) == 1, Mxr: d.below(2) == 1, Satp: satpOn | crowdedAsid(d)<<44 | d.below(pages)}
	if d.below(24) == 0 {
		c.Mode = impl.ModeM
	}
	return c
}

// Caches of all sorts of valid entries, which need never have stood in memory.
func TestCachedGenerated(t *testing.T) {
	d := dice(707)
	seen := map[string]int{}
	sizes := []int{256, 512, 1024, 4096, 130}
	for round := range 3000 {
		mem := someTables(&d, sizes[round%len(sizes)])
		pages := uint64(len(mem)/64 + 1)
		for range 20 {
			k, c, kind, va := someCaches(&d, pages), crowdedCtx(&d, pages), int64(d.below(3)), crowdedVa(&d)
			if d.below(24) == 0 {
				va ^= 1 << (14 + d.below(50))
			}
			got := checkCached(t, mem, c, k, kind, va, int64(d.below(256)))
			seen[wayOf(c, k, kind, va, got)]++
		}
	}
	wantWays(t, seen)
}

func wantWays(t *testing.T, seen map[string]int) {
	t.Helper()
	for _, way := range []string{"off", "not canonical", "hit leaf", "hit page", "root leaf", "root page", "root access", "level 2 leaf", "level 2 page", "level 2 access", "level 1 leaf", "level 1 page", "level 1 access"} {
		if seen[way] < 50 {
			t.Errorf("%q came only %d times", way, seen[way])
		}
	}
}

// Caches that go on from one translation to the next while memory changes and fences come.
func TestCachedSequencesGenerated(t *testing.T) {
	d := dice(808)
	seen := map[string]int{}
	for range 1500 {
		mem := someTables(&d, 512)
		k := emptyCaches(int64(d.below(16)))
		for range 60 {
			switch d.below(12) {
			case 0:
				put8(mem, 8*int(d.below(64)), someEntry(&d, 9))
			case 1:
				k = flushAll(k, someFence(&d))
			}
			c, kind, va := crowdedCtx(&d, 2), int64(d.below(3)), crowdedVa(&d)
			if d.below(24) == 0 {
				va ^= 1 << (14 + d.below(50))
			}
			got := checkCached(t, mem, c, k, kind, va, int64(d.below(256)))
			seen[wayOf(c, k, kind, va, got)]++
			k = got.Caches
		}
	}
	wantWays(t, seen)
}
