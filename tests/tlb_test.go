package tests

import (
	"math"
	"testing"

	"loop.example/s0051/impl"
)

// The tests of promise 5: Insert and Flush keep a valid cache valid and change nothing but what 4.2 names; Lookup gives
// the fitting entry of the lowest level and then of the lowest index.

func wantBoth(t *testing.T, tlb impl.Tlb, leaves bool, pointers bool) {
	t.Helper()
	if got := impl.ValidTlb(tlb, false); got != leaves {
		t.Errorf("%+v as a cache of leaves: %v", tlb, got)
	}
	if got := impl.ValidTlb(tlb, true); got != pointers {
		t.Errorf("%+v as a cache of pointers: %v", tlb, got)
	}
}

func TestValidTlbShapes(t *testing.T) {
	sizes := append([]int64{}, wrongSmalls...)
	for i := int64(-9); i <= 33; i++ {
		sizes = append(sizes, i)
	}
	for _, sets := range sizes {
		for _, ways := range sizes {
			fine := (sets == 1 || sets == 2 || sets == 4 || sets == 8) && ways >= 1 && ways <= 4
			for count := range 40 {
				tlb := impl.Tlb{Sets: sets, Ways: ways, Entries: make([]impl.Entry, count)}
				want := fine && int64(count) == sets*ways
				if impl.ValidTlb(tlb, false) != want || impl.ValidTlb(tlb, true) != want {
					t.Fatalf("%d sets, %d ways, %d entries: want %v", sets, ways, count, want)
				}
			}
		}
	}
	wantBoth(t, impl.Tlb{}, false, false)
	wantBoth(t, impl.Tlb{Sets: 1, Ways: 1}, false, false)
	wantBoth(t, impl.Tlb{Sets: 1 << 32, Ways: 1 << 32}, false, false)
	wantBoth(t, impl.Tlb{Sets: -2, Ways: -2, Entries: make([]impl.Entry, 4)}, false, false)
}

// A wrong count of entries is wrong whatever the entries are.
func TestValidTlbCountOfGoodEntries(t *testing.T) {
	for count := range 7 {
		tlb := impl.Tlb{Sets: 1, Ways: 4}
		for i := range count {
			tlb.Entries = append(tlb.Entries, leafAt(0, uint64(i), 1, 0))
		}
		wantBoth(t, tlb, count == 4, false)
	}
}

func TestValidTlbTags(t *testing.T) {
	bounds := []uint64{512, 64, 8}
	for level := range int64(3) {
		for _, tag := range []uint64{0, 1, bounds[level] - 1} {
			wantBoth(t, impl.Tlb{Sets: 1, Ways: 1, Entries: []impl.Entry{leafAt(level, tag, 0, 0)}}, true, false)
			wantBoth(t, impl.Tlb{Sets: 1, Ways: 1, Entries: []impl.Entry{pointerAt(level, tag, 0, 5, 0)}}, false, level > 0)
		}
		for _, tag := range []uint64{bounds[level], bounds[level] + 1, 2 * bounds[level], 512, 1 << 16, 1 << 32, 1 << 63, math.MaxUint64} {
			wantBoth(t, impl.Tlb{Sets: 1, Ways: 1, Entries: []impl.Entry{leafAt(level, tag, 0, 0)}}, false, false)
			wantBoth(t, impl.Tlb{Sets: 1, Ways: 1, Entries: []impl.Entry{pointerAt(level, tag, 0, 5, 0)}}, false, false)
		}
	}
}

// An entry stands in the set of its tag, in whatever way, and nowhere else.
func TestValidTlbPlaces(t *testing.T) {
	for _, sets := range []int64{1, 2, 4, 8} {
		for ways := int64(1); ways <= 4; ways++ {
			for index := range sets * ways {
				for tag := range uint64(8) {
					for level := int64(1); level <= 2; level++ {
						tlb := emptyTlb(sets, ways)
						right := index/ways == int64(tag)%sets
						tlb.Entries[index] = leafAt(level, tag, 3, impl.BitG)
						wantBoth(t, tlb, right, false)
						tlb.Entries[index] = pointerAt(level, tag, 3, 1, 0)
						wantBoth(t, tlb, false, right)
					}
				}
			}
		}
	}
}

func TestValidTlbFields(t *testing.T) {
	leaf, pointer := leafAt(1, 4, 7, 0), pointerAt(1, 4, 7, 2, 0)
	rows := []struct {
		name   string
		change func(e *impl.Entry)
		valid  bool
	}{
		{"unchanged", func(e *impl.Entry) {}, true},
		{"not Valid", func(e *impl.Entry) { e.Valid = false }, false},
		{"asid 65535", func(e *impl.Entry) { e.Asid = 65535 }, true},
		{"asid 65536", func(e *impl.Entry) { e.Asid = 65536 }, false},
		{"asid 2^63", func(e *impl.Entry) { e.Asid = 1 << 63 }, false},
		{"Global without bit G", func(e *impl.Entry) { e.Global = true }, false},
		{"bit G without Global", func(e *impl.Entry) { e.Pte |= impl.BitG }, false},
		{"Global with bit G", func(e *impl.Entry) { e.Global = true; e.Pte |= impl.BitG }, true},
		{"no bit V", func(e *impl.Entry) { e.Pte &^= impl.BitV }, false},
		{"bit 54", func(e *impl.Entry) { e.Pte |= 1 << 54 }, false},
		{"bit 63", func(e *impl.Entry) { e.Pte |= 1 << 63 }, false},
		{"bits 8 and 9", func(e *impl.Entry) { e.Pte |= 3 << 8 }, true},
		{"no Pte", func(e *impl.Entry) { e.Pte = 0 }, false},
		{"level -1", func(e *impl.Entry) { e.Level = -1 }, false},
		{"level 3", func(e *impl.Entry) { e.Level = 3 }, false},
		{"level 2^32 + 1", func(e *impl.Entry) { e.Level = 1<<32 + 1 }, false},
		{"the least level", func(e *impl.Entry) { e.Level = math.MinInt64 }, false},
	}
	for _, r := range rows {
		for _, ways := range []int64{1, 4} {
			tlb := emptyTlb(4, ways)
			tlb.Entries[ways-1] = leaf
			r.change(&tlb.Entries[ways-1])
			if impl.ValidTlb(tlb, false) != r.valid || impl.ValidTlb(tlb, true) {
				t.Errorf("a leaf, %s, %d ways: want %v", r.name, ways, r.valid)
			}
			tlb.Entries[ways-1] = pointer
			r.change(&tlb.Entries[ways-1])
			if impl.ValidTlb(tlb, true) != r.valid || impl.ValidTlb(tlb, false) {
				t.Errorf("a pointer, %s, %d ways: want %v", r.name, ways, r.valid)
			}
		}
	}
}

// An entry that is not Valid must be the zero Entry in every field.
func TestValidTlbEmptyPlaces(t *testing.T) {
	rests := []impl.Entry{{Level: 1}, {Level: -1}, {Tag: 1}, {Asid: 1}, {Global: true}, {Pte: 1}, {Pte: 1 << 63}, {Valid: true}}
	for _, rest := range rests {
		for index := range 4 {
			tlb := emptyTlb(1, 4)
			wantBoth(t, tlb, true, true)
			tlb.Entries[index] = rest
			wantBoth(t, tlb, false, false)
		}
	}
}

func TestValidTlbLeavesAndPointers(t *testing.T) {
	leaf, pointer := leafAt(1, 0, 0, 0), pointerAt(1, 0, 0, 3, 0)
	wantBoth(t, impl.Tlb{Sets: 1, Ways: 3, Entries: []impl.Entry{leaf, {}, leaf}}, true, false)
	wantBoth(t, impl.Tlb{Sets: 1, Ways: 3, Entries: []impl.Entry{pointer, {}, pointer}}, false, true)
	wantBoth(t, impl.Tlb{Sets: 1, Ways: 3, Entries: []impl.Entry{leaf, {}, pointer}}, false, false)
	wantBoth(t, impl.Tlb{Sets: 1, Ways: 3, Entries: []impl.Entry{pointer, leaf, {}}}, false, false)
	wantBoth(t, impl.Tlb{Sets: 1, Ways: 1, Entries: []impl.Entry{pointerAt(0, 0, 0, 3, 0)}}, false, false)
	wantBoth(t, impl.Tlb{Sets: 1, Ways: 1, Entries: []impl.Entry{pointerAt(2, 0, 0, 3, impl.BitA)}}, false, false)
	crooked := leafAt(2, 0, 0, 0)
	crooked.Pte += 1 << 10
	wantBoth(t, impl.Tlb{Sets: 1, Ways: 1, Entries: []impl.Entry{crooked}}, false, false)
}

// Each bit of each field is turned once.
func TestValidTlbEveryBit(t *testing.T) {
	for _, base := range []impl.Entry{leafAt(0, 511, 65535, 0), leafAt(1, 63, 1, impl.BitG), leafAt(2, 7, 0, impl.BitU), pointerAt(1, 63, 9, 7, impl.BitG), pointerAt(2, 7, 65535, 1, 0)} {
		for i := range 64 {
			changed := [4]impl.Entry{base, base, base, base}
			changed[0].Level ^= 1 << i
			changed[1].Tag ^= 1 << i
			changed[2].Asid ^= 1 << i
			changed[3].Pte ^= 1 << i
			for _, e := range changed {
				tlb := impl.Tlb{Sets: 1, Ways: 1, Entries: []impl.Entry{e}}
				wantBoth(t, tlb, wantValid(tlb, false), wantValid(tlb, true))
			}
		}
	}
}

// Of all that fit, the lowest level is taken, wherever it stands.
func TestLookupLowestLevelFirst(t *testing.T) {
	orders := [][3]int64{{0, 1, 2}, {0, 2, 1}, {1, 0, 2}, {1, 2, 0}, {2, 0, 1}, {2, 1, 0}}
	va := uint64(3<<12 | 5<<9 | 7<<6 | 9)
	for _, order := range orders {
		tlb := emptyTlb(1, 3)
		for i, level := range order {
			tlb.Entries[i] = leafAt(level, wantTag(va, level), 4, uint64(level)<<8)
		}
		for lowest := range int64(3) {
			for i, level := range order {
				if got := checkLookup(t, tlb, va, 4); level == lowest && (!got.Found || got.Index != int64(i) || got.Level != level) {
					t.Errorf("order %v: %+v, want level %d", order, got, level)
				}
			}
			for i, level := range order {
				if level == lowest {
					tlb.Entries[i] = impl.Entry{}
				}
			}
		}
		if got := checkLookup(t, tlb, va, 4); got != (impl.Hit{}) {
			t.Errorf("an empty cache: %+v", got)
		}
	}
}

func TestLookupLowestIndexOfOneLevel(t *testing.T) {
	for fits := range 16 {
		tlb := emptyTlb(2, 4)
		first := -1
		for way := range 4 {
			tlb.Entries[4+way] = leafAt(0, 1, 100+uint64(way), 0)
			if fits>>way%2 == 1 {
				tlb.Entries[4+way] = leafAt(0, 1, 2, uint64(way)<<8)
				if first < 0 {
					first = way
				}
			}
		}
		got := checkLookup(t, tlb, 64+33, 2)
		want := impl.Hit{}
		if first >= 0 {
			want = impl.Hit{Found: true, Index: int64(4 + first), Level: 0, Pte: tlb.Entries[4+first].Pte}
		}
		if got != want {
			t.Errorf("ways %04b fit: %+v, want %+v", fits, got, want)
		}
	}
}

func TestLookupGlobalAndAsid(t *testing.T) {
	tlb := impl.Tlb{Sets: 1, Ways: 4, Entries: []impl.Entry{leafAt(0, 1, 5, 0), leafAt(0, 1, 6, impl.BitG), leafAt(0, 2, 6, 0), leafAt(1, 0, 5, impl.BitG)}}
	rows := []struct {
		va, asid uint64
		index    int64
	}{
		{64, 5, 0}, {64, 6, 1}, {64, 7, 1}, {64, 65536 + 5, 1}, {64, math.MaxUint64, 1}, {128, 6, 2}, {128, 5, 3}, {128, 65536 + 6, 3}, {0, 5, 3}, {0, 1 << 63, 3},
		{512, 5, -1}, {4096 + 64, 5, -1}, {16384 + 64, 5, -1}, {1<<64 - 64, 5, -1},
	}
	for _, r := range rows {
		got := checkLookup(t, tlb, r.va, r.asid)
		if r.index < 0 && got != (impl.Hit{}) || r.index >= 0 && (got.Index != r.index || !got.Found) {
			t.Errorf("%d in space %d: %+v, want index %d", r.va, r.asid, got, r.index)
		}
	}
}

// Only the bits 6..14 of an address count: it need not be canonical.
func TestLookupNotCanonical(t *testing.T) {
	for level := range int64(3) {
		for _, tag := range []uint64{0, 1, 5, []uint64{511, 63, 7}[level]} {
			tlb := emptyTlb(8, 1)
			tlb.Entries[tag%8] = leafAt(level, tag, 3, 0)
			for i := 15; i < 64; i++ {
				for _, upper := range []uint64{0, 1 << i, math.MaxUint64 << i} {
					va := upper | tag*spanOf(level) + 17
					if got := checkLookup(t, tlb, va, 3); !got.Found || got.Level != level {
						t.Errorf("%#x at level %d: %+v", va, level, got)
					}
				}
			}
		}
	}
}

// Every place of the address space is found where its tag is, by leaves and by pointers.
func TestLookupEveryPage(t *testing.T) {
	for _, pointers := range []bool{false, true} {
		tlb := emptyTlb(8, 4)
		for tag := range uint64(8) {
			tlb.Entries[4*tag] = entryAt(pointers, 2, tag, 1, 0)
			tlb.Entries[4*tag+1] = entryAt(pointers, 1, 8*tag+tag, 1, 0)
			tlb.Entries[4*tag+2] = entryAt(pointers, 1, 8*(7-tag)+tag, 1, impl.BitG)
		}
		for va := uint64(0); va < 1<<15; va += 32 {
			for asid := range uint64(3) {
				checkLookup(t, tlb, va, asid)
			}
		}
	}
}

func wrongTlbs() []impl.Tlb {
	good := []impl.Entry{leafAt(0, 1, 2, 0), leafAt(0, 2, 2, 0)}
	return []impl.Tlb{
		{}, {Sets: 1, Ways: 1}, {Sets: 0, Ways: 1}, {Sets: 1, Ways: 0}, {Sets: 1, Ways: 0, Entries: good},
		{Sets: 1, Ways: 1, Entries: good}, {Sets: 1, Ways: 3, Entries: good}, {Sets: 0, Ways: 2, Entries: good},
		{Sets: -1, Ways: -2, Entries: good}, {Sets: 2, Ways: 1, Entries: good}, {Sets: math.MinInt64, Ways: 2, Entries: good},
		{Sets: 3, Ways: 1, Entries: make([]impl.Entry, 3)}, {Sets: 16, Ways: 1, Entries: make([]impl.Entry, 16)}, {Sets: 1, Ways: 5, Entries: make([]impl.Entry, 5)},
		{Sets: 1 << 62, Ways: 4, Entries: nil}, {Sets: 1, Ways: math.MaxInt64, Entries: good},
		{Sets: 1, Ways: 2, Entries: []impl.Entry{leafAt(1, 0, 2, 0), pointerAt(1, 0, 2, 0, 0)}},
		{Sets: 1, Ways: 2, Entries: []impl.Entry{leafAt(0, 1, 65536, 0), {}}},
		{Sets: 1, Ways: 2, Entries: []impl.Entry{leafAt(0, 1, 2, 0), {Tag: 1}}},
		{Sets: 1, Ways: 2, Entries: []impl.Entry{leafAt(0, 1, 2, 0), {Valid: true, Level: 7, Pte: 3}}},
		{Sets: 1, Ways: 2, Entries: []impl.Entry{leafAt(0, 1, 2, 0), {Valid: true, Level: -7, Pte: 3}}},
	}
}

// A cache that is valid in neither sense finds nothing, takes nothing in and throws nothing out.
func TestWrongCachesStayAsTheyAre(t *testing.T) {
	for i, tlb := range wrongTlbs() {
		wantBoth(t, tlb, false, false)
		for _, va := range []uint64{0, 64, 70, 128} {
			if got := checkLookup(t, tlb, va, 2); got != (impl.Hit{}) {
				t.Errorf("cache %d finds %d: %+v", i, va, got)
			}
		}
		for _, e := range []impl.Entry{leafAt(0, 1, 2, 0), pointerAt(1, 0, 2, 0, 0), {}} {
			if got := checkInsert(t, tlb, e, 0); !sameTlb(got, tlb) {
				t.Errorf("cache %d takes %+v in", i, e)
			}
		}
		for _, f := range []impl.Fence{{}, {HasVa: true, Va: 64}, {HasAsid: true, Asid: 2}, {HasVa: true, Va: 64, HasAsid: true, Asid: 2}} {
			if got := checkFlush(t, tlb, f); !sameTlb(got, tlb) {
				t.Errorf("cache %d is flushed by %+v", i, f)
			}
		}
	}
}

func TestInsertLowestEmptyWay(t *testing.T) {
	for taken := range 15 {
		for pick := range int64(256) {
			tlb := emptyTlb(2, 4)
			lowest := -1
			for way := range 4 {
				if taken>>way%2 == 1 {
					tlb.Entries[4+way] = leafAt(0, 2*uint64(way)+1, 1, 0)
				} else if lowest < 0 {
					lowest = way
				}
			}
			e := leafAt(0, 33, 9, 0)
			if got := checkInsert(t, tlb, e, pick); got.Entries[4+lowest] != e {
				t.Fatalf("ways %04b taken, pick %d: %+v", taken, pick, got)
			}
		}
	}
}

func TestInsertIntoFullSet(t *testing.T) {
	for _, sets := range []int64{1, 2, 4, 8} {
		for ways := int64(1); ways <= 4; ways++ {
			for _, pointers := range []bool{false, true} {
				tlb := emptyTlb(sets, ways)
				for i := range sets * ways {
					tlb.Entries[i] = entryAt(pointers, 1, uint64(i/ways), uint64(i), 0)
				}
				e := entryAt(pointers, 1, 56+uint64(sets-1), 77, impl.BitG)
				for pick := range int64(256) {
					got := checkInsert(t, tlb, e, pick)
					if got.Entries[(sets-1)*ways+pick%ways] != e {
						t.Fatalf("%d sets, %d ways, pick %d: %+v", sets, ways, pick, got)
					}
				}
			}
		}
	}
}

func TestInsertWrongPicks(t *testing.T) {
	empty, full := emptyTlb(1, 1), impl.Tlb{Sets: 1, Ways: 1, Entries: []impl.Entry{leafAt(0, 1, 1, 0)}}
	e := leafAt(0, 4, 4, 0)
	for _, pick := range []int64{-1, -2, -255, -256, 256, 257, 511, 512, 1 << 8, 1 << 16, 1 << 32, 1<<32 + 1, math.MaxInt64, math.MinInt64} {
		for _, tlb := range []impl.Tlb{empty, full} {
			if got := checkInsert(t, tlb, e, pick); !sameTlb(got, tlb) {
				t.Errorf("pick %d: %+v", pick, got)
			}
		}
	}
	for _, pick := range []int64{0, 255} {
		for _, tlb := range []impl.Tlb{empty, full} {
			if got := checkInsert(t, tlb, e, pick); got.Entries[0] != e {
				t.Errorf("pick %d: %+v", pick, got)
			}
		}
	}
}

func TestInsertWrongEntries(t *testing.T) {
	tlbs := []impl.Tlb{emptyTlb(1, 1), emptyTlb(8, 4), {Sets: 1, Ways: 1, Entries: []impl.Entry{leafAt(1, 1, 1, 0)}}, {Sets: 1, Ways: 1, Entries: []impl.Entry{pointerAt(1, 1, 1, 1, 0)}}}
	noValid, noGlobal, noG, crooked := leafAt(0, 1, 1, 0), leafAt(0, 1, 1, impl.BitG), leafAt(0, 1, 1, 0), leafAt(2, 1, 1, 0)
	noValid.Valid, noGlobal.Global, noG.Global = false, false, true
	crooked.Pte += 1 << 15
	wrong := []impl.Entry{
		{}, {Valid: true}, noValid, noGlobal, noG, crooked, {Valid: true, Level: 1, Pte: impl.BitV | impl.BitU},
		leafAt(0, 512, 1, 0), leafAt(1, 64, 1, 0), leafAt(2, 8, 1, 0), leafAt(0, 1<<63, 1, 0), leafAt(0, 1, 65536, 0), leafAt(0, 1, 1, 1<<54),
		pointerAt(0, 1, 1, 1, 0), pointerAt(1, 64, 1, 1, 0), pointerAt(2, 8, 1, 1, 0), pointerAt(1, 1, 65536, 1, 0), pointerAt(1, 1, 1, 1, impl.BitD),
	}
	for level := range int64(6) {
		e := leafAt(1, 1, 1, 0)
		e.Level = []int64{-1, 3, 1 << 32, 1<<32 + 1, math.MinInt64, math.MaxInt64}[level]
		wrong = append(wrong, e)
	}
	for _, tlb := range tlbs {
		for _, e := range wrong {
			if got := checkInsert(t, tlb, e, 0); !sameTlb(got, tlb) {
				t.Errorf("%+v went into %+v", e, tlb)
			}
		}
	}
}

// What an empty cache is, its first entry decides.
func TestInsertLeavesAndPointers(t *testing.T) {
	leaf, pointer := leafAt(1, 1, 65535, 0), pointerAt(1, 2, 65535, 1, 0)
	leaves := checkInsert(t, emptyTlb(1, 2), leaf, 0)
	pointers := checkInsert(t, emptyTlb(1, 2), pointer, 0)
	wantBoth(t, leaves, true, false)
	wantBoth(t, pointers, false, true)
	if got := checkInsert(t, leaves, pointer, 0); !sameTlb(got, leaves) {
		t.Errorf("a pointer among leaves: %+v", got)
	}
	if got := checkInsert(t, pointers, leaf, 0); !sameTlb(got, pointers) {
		t.Errorf("a leaf among pointers: %+v", got)
	}
	if got := checkInsert(t, leaves, leaf, 0); got.Entries[0] != leaf || got.Entries[1] != leaf {
		t.Errorf("the same leaf once more: %+v", got)
	}
}

// The greatest tags go into the right sets.
func TestInsertEverySet(t *testing.T) {
	for _, sets := range []int64{1, 2, 4, 8} {
		for level := range int64(3) {
			for tag := range []uint64{512, 64, 8}[level] {
				got := checkInsert(t, emptyTlb(sets, 3), leafAt(level, tag, 0, 0), 1)
				if !got.Entries[int64(tag)%sets*3].Valid {
					t.Fatalf("tag %d of level %d in %d sets: %+v", tag, level, sets, got)
				}
			}
		}
	}
}

// fenced has entries of every level, global and not, of two spaces, on the way of va and beside it.
func fenced(pointers bool, va uint64) []impl.Tlb {
	var out []impl.Tlb
	for level := lowestOf(pointers); level <= 2; level++ {
		tlb := emptyTlb(8, 4)
		on := wantTag(va, level)
		for side := range uint64(2) {
			tag := on ^ side
			for i := range uint64(4) {
				tlb.Entries[tag%8*4+i] = entryAt(pointers, level, tag, 10+i%2, i/2*impl.BitG)
			}
		}
		out = append(out, tlb)
	}
	return out
}

func TestFlushEachKindOfFence(t *testing.T) {
	va := uint64(6<<9 | 3<<6 | 5)
	rows := []struct {
		f    impl.Fence
		left string
	}{
		{impl.Fence{}, "........"},
		{impl.Fence{HasVa: true, Va: va}, "....aAgG"},
		{impl.Fence{HasAsid: true, Asid: 10}, ".AgG.AgG"},
		{impl.Fence{HasAsid: true, Asid: 11}, "a.gGa.gG"},
		{impl.Fence{HasAsid: true, Asid: 12}, "aAgGaAgG"},
		{impl.Fence{HasAsid: true, Asid: 65536 + 10}, "aAgGaAgG"},
		{impl.Fence{HasVa: true, Va: va, HasAsid: true, Asid: 10}, ".AgGaAgG"},
		{impl.Fence{HasVa: true, Va: va, HasAsid: true, Asid: 11}, "a.gGaAgG"},
		{impl.Fence{HasVa: true, Va: va, HasAsid: true, Asid: 9}, "aAgGaAgG"},
		{impl.Fence{HasVa: true, Va: va ^ 1<<20}, "aAgGaAgG"},
		{impl.Fence{HasVa: true, Va: va ^ 1<<14}, "aAgGaAgG"},
		{impl.Fence{HasVa: true, Va: va ^ 1<<63, HasAsid: true, Asid: 10}, "aAgGaAgG"},
		{impl.Fence{Va: va, Asid: 10}, "........"},
		{impl.Fence{Va: 1 << 20, Asid: 77}, "........"},
		{impl.Fence{HasVa: true, Va: va, Asid: 99}, "....aAgG"},
		{impl.Fence{HasAsid: true, Asid: 10, Va: 1 << 30}, ".AgG.AgG"},
	}
	for _, r := range rows {
		for _, pointers := range []bool{false, true} {
			for _, tlb := range fenced(pointers, va) {
				got := checkFlush(t, tlb, r.f)
				if left := leftOf(got, va); left != r.left {
					t.Errorf("%+v, pointers %v: %s are left, want %s", r.f, pointers, left, r.left)
				}
			}
		}
	}
}

// leftOf tells the entries of fenced that are still there, those on the way of va first.
func leftOf(tlb impl.Tlb, va uint64) string {
	out := []byte("........")
	for i, e := range tlb.Entries {
		if !e.Valid {
			continue
		}
		side := 4 * int(wantTag(va, e.Level)^e.Tag)
		out[side+i%4] = "aAgG"[i%4]
	}
	return string(out)
}

// A fence of any byte of a page covers the page, and at each level what the entry spans.
func TestFlushEveryVa(t *testing.T) {
	for level := range int64(3) {
		for _, tag := range []uint64{0, 1, 5, []uint64{511, 63, 7}[level]} {
			tlb := emptyTlb(1, 1)
			tlb.Entries[0] = leafAt(level, tag, 8, 0)
			for low := uint64(0); low < 1<<15; low += 16 {
				va := low
				if low >= 1<<14 {
					va -= 1 << 15
				}
				got := checkFlush(t, tlb, impl.Fence{HasVa: true, Va: va})
				if got.Entries[0].Valid == (low/spanOf(level) == tag) {
					t.Fatalf("va %#x, level %d, tag %d: %+v", va, level, tag, got)
				}
			}
		}
	}
}

func TestCachesGenerated(t *testing.T) {
	d := dice(5051)
	seen := map[string]int{}
	for round := range 6000 {
		pointers := round%2 == 1
		tlb := someTlb(&d, pointers, 8)
		if !impl.ValidTlb(tlb, pointers) {
			t.Fatalf("%+v is not valid", tlb)
		}
		for range 6 {
			for range 6 {
				hit := checkLookup(t, tlb, crowdedVa(&d), crowdedAsid(&d))
				seen["hit"] += map[bool]int{true: 1}[hit.Found]
			}
			next := checkInsert(t, tlb, someKept(&d, pointers, 8), int64(d.below(256)))
			f := someFence(&d)
			next = checkFlush(t, next, f)
			seen["flush"] += map[bool]int{true: 1}[!sameTlb(next, tlb)]
			if !impl.ValidTlb(next, pointers) {
				t.Fatalf("%+v is not valid any more", next)
			}
			checkInsert(t, next, someKept(&d, !pointers, 8), int64(d.below(256)))
			tlb = next
		}
	}
	for _, what := range []string{"hit", "flush"} {
		if seen[what] < 10000 {
			t.Errorf("%s came only %d times", what, seen[what])
		}
	}
}

// Caches that are nearly valid: one field of one entry, or the shape, is changed.
func TestNearlyValidCachesGenerated(t *testing.T) {
	d := dice(616)
	valid := map[bool]int{}
	for round := range 20000 {
		tlb := someTlb(&d, round%2 == 1, 8)
		at := d.below(uint64(len(tlb.Entries)))
		switch d.below(8) {
		case 0:
			tlb.Entries[at].Valid = !tlb.Entries[at].Valid
		case 1:
			tlb.Entries[at].Level = int64(d.below(5)) - 1
		case 2:
			tlb.Entries[at].Tag ^= 1 << d.below(12)
		case 3:
			tlb.Entries[at].Asid ^= 1 << d.below(20)
		case 4:
			tlb.Entries[at].Global = !tlb.Entries[at].Global
		case 5:
			tlb.Entries[at].Pte ^= 1 << d.below(60)
		case 6:
			tlb.Sets, tlb.Ways = tlb.Ways, tlb.Sets
		case 7:
			tlb.Entries = tlb.Entries[:at]
		}
		wantBoth(t, tlb, wantValid(tlb, false), wantValid(tlb, true))
		valid[wantEither(tlb)]++
		checkLookup(t, tlb, crowdedVa(&d), crowdedAsid(&d))
		checkInsert(t, tlb, someKept(&d, d.below(2) == 1, 8), int64(d.below(256)))
		checkFlush(t, tlb, someFence(&d))
	}
	if valid[true] < 1000 || valid[false] < 1000 {
		t.Errorf("valid and not: %v", valid)
	}
}
