package tests

import (
	"slices"
	"testing"

	"loop.example/s0051/impl"
)

// The tests of promise 8: after a fence over all three caches, an address that the fence covers is translated as PlainTranslate does.

// covered is promise 8's condition, with the caches before the fence.
func covered(f impl.Fence, k impl.Caches, c impl.Ctx, va uint64) bool {
	if f.HasVa && (!wantCanonical(f.Va) || f.Va/64 != va/64) {
		return false
	}
	if !f.HasAsid {
		return true
	}
	globalFits := func(e impl.Entry) bool { return e.Global && wantFits(e, va, asidOf(c)) }
	return f.Asid == asidOf(c) && !slices.ContainsFunc(slices.Concat(k.I.Entries, k.D.Entries, k.P.Entries), globalFits)
}

func kindOfFence(f impl.Fence) string {
	return map[bool]string{false: "all", true: "page"}[f.HasVa] + map[bool]string{false: "", true: " of a space"}[f.HasAsid]
}

func sameAsPlain(mem []byte, c impl.Ctx, k impl.Caches, kind int64, va uint64, pick int64) bool {
	got, plain := impl.TlbTranslate(mem, c, k, kind, va, pick), impl.PlainTranslate(mem, c, kind, va)
	return got.Cause == plain.Cause && got.Pa == plain.Pa
}

// staleCaches have walked to page 1 and to page 9 in space 6, before the entries of both pages were changed in memory.
// The bits go into the leaves and the lowest pointers.
func staleCaches(t *testing.T, bits uint64) ([]byte, impl.Caches) {
	mem := make([]byte, 1024)
	put8(mem, 64, 2<<10|impl.BitV)
	put8(mem, 128, 3<<10|impl.BitV|bits)
	put8(mem, 136, 4<<10|impl.BitV|bits)
	put8(mem, 200, 10<<10|207|bits)
	put8(mem, 264, 11<<10|207|bits)
	k := emptyCaches(15)
	for kind := range int64(3) {
		for _, va := range []uint64{64, 9 * 64} {
			k = checkCached(t, mem, superCtx(6), k, kind, va, 0).Caches
		}
	}
	put8(mem, 128, 5<<10|impl.BitV)
	put8(mem, 136, 5<<10|impl.BitV)
	put8(mem, 328, 12<<10|207)
	return mem, k
}

func TestFenceRows(t *testing.T) {
	rows := []struct {
		name   string
		f      impl.Fence
		page1  bool
		page9  bool
		global bool
	}{
		{"over everything", impl.Fence{}, true, true, false},
		{"over everything, global entries", impl.Fence{}, true, true, true},
		{"flags false", impl.Fence{Va: 1 << 20, Asid: 7}, true, true, true},
		{"this page", impl.Fence{HasVa: true, Va: 64}, true, false, false},
		{"the last byte of this page, global entries", impl.Fence{HasVa: true, Va: 127}, true, false, true},
		{"the other page", impl.Fence{HasVa: true, Va: 9*64 + 1}, false, true, false},
		{"a page that nobody walked to", impl.Fence{HasVa: true, Va: 4096}, false, false, false},
		{"a page that is not canonical", impl.Fence{HasVa: true, Va: 64 | 1<<15}, false, false, false},
		{"this space", impl.Fence{HasAsid: true, Asid: 6}, true, true, false},
		{"another space", impl.Fence{HasAsid: true, Asid: 7}, false, false, false},
		{"a space beyond all", impl.Fence{HasAsid: true, Asid: 65536 + 6}, false, false, false},
		{"this space, global entries", impl.Fence{HasAsid: true, Asid: 6}, false, false, true},
		{"this page of this space", impl.Fence{HasVa: true, Va: 100, HasAsid: true, Asid: 6}, true, false, false},
		{"this page of another space", impl.Fence{HasVa: true, Va: 100, HasAsid: true, Asid: 5}, false, false, false},
		{"this page of this space, global entries", impl.Fence{HasVa: true, Va: 100, HasAsid: true, Asid: 6}, false, false, true},
		{"the other page of this space", impl.Fence{HasVa: true, Va: 9 * 64, HasAsid: true, Asid: 6}, false, true, false},
	}
	for _, r := range rows {
		mem, k := staleCaches(t, map[bool]uint64{true: impl.BitG}[r.global])
		after := flushAll(k, r.f)
		for kind := range int64(3) {
			old1, old9, fresh := uint64(10*64+5), uint64(11*64+5), uint64(12*64+5)
			want1, want9 := old1, old9
			if r.page1 {
				want1 = fresh
			}
			if r.page9 {
				want9 = fresh
			}
			if got := checkCached(t, mem, superCtx(6), k, kind, 69, 0); got.Pa != old1 {
				t.Errorf("%s: before the fence page 1 gives %+v", r.name, got)
			}
			if got := checkCached(t, mem, superCtx(6), after, kind, 69, 0); got.Pa != want1 {
				t.Errorf("%s, kind %d: page 1 gives %d, want %d", r.name, kind, got.Pa, want1)
			}
			if got := checkCached(t, mem, superCtx(6), after, kind, 9*64+5, 0); got.Pa != want9 {
				t.Errorf("%s, kind %d: page 9 gives %d, want %d", r.name, kind, got.Pa, want9)
			}
		}
	}
}

// A fence of one page throws out large leaves and upper pointers that its neighbours use as well.
func TestFenceOfAPageReachesUp(t *testing.T) {
	mem := exampleMem()
	for _, row := range []struct{ warm, fence, fresh uint64 }{{582, 520, 512}, {4196, 4096, 4096}, {69, 64, 64}} {
		k := checkCached(t, mem, superCtx(0), emptyCaches(15), impl.KindLoad, row.warm, 0).Caches
		changed := make([]byte, len(mem))
		k = flushAll(k, impl.Fence{HasVa: true, Va: row.fence})
		for va := row.fresh; va < row.fresh+64; va++ {
			if got := checkCached(t, changed, superCtx(0), k, impl.KindLoad, va, 0); got.Cause != impl.CauseLoadPage {
				t.Errorf("warmed at %d, fenced at %d: %d gives %+v", row.warm, row.fence, va, got)
			}
		}
	}
}

// The pointer cache must be fenced as well: a stale pointer alone makes a stale walk.
func TestFenceOfLeavesAloneIsNotEnough(t *testing.T) {
	mem, k := staleCaches(t, 0)
	half := k
	half.I, half.D = impl.Flush(k.I, impl.Fence{}), impl.Flush(k.D, impl.Fence{})
	for kind := range int64(3) {
		if got := checkCached(t, mem, superCtx(6), half, kind, 69, 0); got.Pa != 10*64+5 {
			t.Errorf("kind %d behind the stale pointer: %+v", kind, got)
		}
		if !sameAsPlain(mem, superCtx(6), flushAll(k, impl.Fence{}), kind, 69, 0) {
			t.Errorf("kind %d after a fence of all three", kind)
		}
	}
}

func TestFencesGenerated(t *testing.T) {
	d := dice(9009)
	mended, stale := map[string]int{}, map[string]int{}
	sizes := []int{256, 512, 1024, 4096, 130}
	for round := range 4000 {
		mem := someTables(&d, sizes[round%len(sizes)])
		pages := uint64(len(mem)/64 + 1)
		for range 20 {
			k, c, kind, va, pick := someCaches(&d, pages), crowdedCtx(&d, pages), int64(d.below(3)), crowdedVa(&d), int64(d.below(256))
			f := someFence(&d)
			if d.below(2) == 0 {
				f.Va = va&^63 | d.below(64)
			}
			if d.below(2) == 0 {
				f.Asid = asidOf(c)
			}
			if d.below(16) == 0 {
				va = d.next()
			}
			before, after := sameAsPlain(mem, c, k, kind, va, pick), sameAsPlain(mem, c, flushAll(k, f), kind, va, pick)
			if covered(f, k, c, va) && !after {
				t.Fatalf("%+v, kind %d, va %#x, pick %d after %+v over %+v is not as plain", c, kind, va, pick, f, k)
			}
			if covered(f, k, c, va) && !before {
				mended[kindOfFence(f)]++
			}
			if !covered(f, k, c, va) && !after {
				stale[kindOfFence(f)]++
			}
		}
	}
	for _, kind := range []string{"all", "page", "all of a space", "page of a space"} {
		if mended[kind] < 100 {
			t.Errorf("a fence %q made a stale address fresh only %d times", kind, mended[kind])
		}
		if kind != "all" && stale[kind] < 100 {
			t.Errorf("a fence %q that does not cover an address left it stale only %d times", kind, stale[kind])
		}
	}
}
