package tests

import (
	"math"
	"testing"

	"loop.example/s0051/impl"
)

// The tests of promise 2: Canonical, PteKind, Granted and PhysOf are exactly chapter 2.

// Besides those next to the range: numbers that a narrower integer would take for 0, 1 or 2.
var wrongSmalls = []int64{
	-1, -2, 3, 4, 8, 63, 64, math.MinInt64, math.MinInt64 + 1, math.MinInt64 + 2, math.MaxInt64 - 1, math.MaxInt64,
	1 << 8, 1<<8 + 1, 1<<8 + 2, 1 << 16, 1<<16 + 1, 1 << 32, 1<<32 + 1, 1<<32 + 2, -1 << 32, -1<<32 + 1, 1 << 62,
}

// zeroToTwo and all around it: the levels, the kinds and the modes are 0..2.
func zeroToTwo() []int64 {
	return append([]int64{0, 1, 2}, wrongSmalls...)
}

func bit(x uint64, i int) bool {
	return x>>i%2 == 1
}

func ppnOf(pte uint64) uint64 {
	return pte / 1024 % (1 << 44)
}

func wantCanonical(va uint64) bool {
	for i := 15; i < 64; i++ {
		if bit(va, i) != bit(va, 14) {
			return false
		}
	}
	return true
}

func wantKind(pte uint64, level int64) int64 {
	r, w, x := bit(pte, 1), bit(pte, 2), bit(pte, 3)
	alignment := map[int64]uint64{0: 1, 1: 8, 2: 64}[level]
	if alignment == 0 || !bit(pte, 0) || pte >= 1<<54 || w && !r {
		return impl.PteBad
	}
	if !r && !w && !x {
		if level == 0 || bit(pte, 4) || bit(pte, 6) || bit(pte, 7) {
			return impl.PteBad
		}
		return impl.PtePointer
	}
	if ppnOf(pte)%alignment != 0 {
		return impl.PteBad
	}
	return impl.PteLeaf
}

func wantGranted(pte uint64, kind int64, mode int64, sum bool, mxr bool) bool {
	r, w, x, u, a, d := bit(pte, 1), bit(pte, 2), bit(pte, 3), bit(pte, 4), bit(pte, 6), bit(pte, 7)
	if kind < 0 || kind > 2 || mode < 0 || mode > 1 || !a {
		return false
	}
	if mode == 0 && !u || mode == 1 && u && (kind == 0 || !sum) {
		return false
	}
	switch {
	case kind == 0:
		return x
	case kind == 1 && mxr:
		return r || x
	case kind == 1:
		return r
	}
	return w && d
}

func wantPhys(pte uint64, level int64, va uint64) uint64 {
	covers := map[int64]uint64{0: 64, 1: 512, 2: 4096}[level]
	if covers == 0 {
		return 0
	}
	whole := ppnOf(pte) * 64
	return whole - whole%covers + va%covers
}

func TestCanonicalRows(t *testing.T) {
	rows := []struct {
		va   uint64
		want bool
	}{
		{0, true}, {1, true}, {63, true}, {8191, true}, {8192, true}, {16383, true},
		{16384, false}, {16385, false}, {24576, false}, {32767, false}, {32768, false}, {49151, false}, {49152, false}, {65535, false},
		{1<<64 - 16384, true}, {1<<64 - 16385, false}, {1<<64 - 16383, true}, {1<<64 - 32768, false}, {1<<64 - 8192, true},
		{math.MaxUint64, true}, {math.MaxUint64 - 1, true}, {math.MaxInt64, false}, {1 << 63, false}, {1<<63 - 16384, false},
		{1 << 31, false}, {1<<32 - 1, false}, {1<<32 - 16384, false}, {0x0000ffffffff0000, false}, {0x00000000ffffc000, false},
		{0xffffffff00000000, false}, {0xffff0000ffffffff, false}, {0x7fffffffffffc000, false}, {0xffffffffffff4000, false}, {0xffffffffffff8000, false},
	}
	for _, r := range rows {
		if got := impl.Canonical(r.va); got != r.want {
			t.Errorf("%#x: %v, want %v", r.va, got, r.want)
		}
	}
}

func TestCanonicalEachBit(t *testing.T) {
	for i := range 64 {
		for j := range 64 {
			one, two := uint64(1)<<i, uint64(1)<<i|uint64(1)<<j
			for _, va := range []uint64{one, two, ^one, ^two, one - 1, -one, two - 1, -two, two - one, one ^ 0x4000, -one ^ 0x4000} {
				if got, want := impl.Canonical(va), wantCanonical(va); got != want {
					t.Errorf("%#x: %v, want %v", va, got, want)
				}
			}
		}
	}
}

func TestCanonicalAroundTheEdges(t *testing.T) {
	for d := range uint64(3 << 14) {
		for _, va := range []uint64{d, -d, 1<<63 + d, 1<<63 - d, 1<<32 + d, 1<<32 - d, 1<<50 + d} {
			if got, want := impl.Canonical(va), wantCanonical(va); got != want {
				t.Fatalf("%#x: %v, want %v", va, got, want)
			}
		}
	}
}

func TestPteKindRows(t *testing.T) {
	const V, R, W, X, U, G, A, D = impl.BitV, impl.BitR, impl.BitW, impl.BitX, impl.BitU, impl.BitG, impl.BitA, impl.BitD
	rows := []struct {
		pte    uint64
		levels [3]int64
	}{
		{0, [3]int64{impl.PteBad, impl.PteBad, impl.PteBad}},
		{V, [3]int64{impl.PteBad, impl.PtePointer, impl.PtePointer}},
		{V + G, [3]int64{impl.PteBad, impl.PtePointer, impl.PtePointer}},
		{V + 768, [3]int64{impl.PteBad, impl.PtePointer, impl.PtePointer}},
		{V + 1024*((1<<44)-1), [3]int64{impl.PteBad, impl.PtePointer, impl.PtePointer}},
		{V + U, [3]int64{impl.PteBad, impl.PteBad, impl.PteBad}},
		{V + A, [3]int64{impl.PteBad, impl.PteBad, impl.PteBad}},
		{V + D, [3]int64{impl.PteBad, impl.PteBad, impl.PteBad}},
		{V + R, [3]int64{impl.PteLeaf, impl.PteLeaf, impl.PteLeaf}},
		{V + X, [3]int64{impl.PteLeaf, impl.PteLeaf, impl.PteLeaf}},
		{V + W, [3]int64{impl.PteBad, impl.PteBad, impl.PteBad}},
		{V + W + X, [3]int64{impl.PteBad, impl.PteBad, impl.PteBad}},
		{V + R + W, [3]int64{impl.PteLeaf, impl.PteLeaf, impl.PteLeaf}},
		{V + R + X + U + G, [3]int64{impl.PteLeaf, impl.PteLeaf, impl.PteLeaf}},
		{R + W + X + A + D, [3]int64{impl.PteBad, impl.PteBad, impl.PteBad}},
		{V + R + 1024*1, [3]int64{impl.PteLeaf, impl.PteBad, impl.PteBad}},
		{V + R + 1024*4, [3]int64{impl.PteLeaf, impl.PteBad, impl.PteBad}},
		{V + R + 1024*8, [3]int64{impl.PteLeaf, impl.PteLeaf, impl.PteBad}},
		{V + R + 1024*32, [3]int64{impl.PteLeaf, impl.PteLeaf, impl.PteBad}},
		{V + R + 1024*64, [3]int64{impl.PteLeaf, impl.PteLeaf, impl.PteLeaf}},
		{V + R + 1<<53, [3]int64{impl.PteLeaf, impl.PteLeaf, impl.PteLeaf}},
		{V + R + 1<<54, [3]int64{impl.PteBad, impl.PteBad, impl.PteBad}},
		{V + 1<<63, [3]int64{impl.PteBad, impl.PteBad, impl.PteBad}},
	}
	for _, r := range rows {
		for level, want := range r.levels {
			if got := impl.PteKind(r.pte, int64(level)); got != want {
				t.Errorf("%#x at level %d: %d, want %d", r.pte, level, got, want)
			}
		}
	}
}

// somePpns: 0, each single bit of the 44, all of them, and all but each of the lowest.
func somePpns() []uint64 {
	all := uint64(1)<<44 - 1
	out := []uint64{0, all, all - 7, all - 63, all - 511}
	for i := range 44 {
		out = append(out, 1<<i)
	}
	for i := range 8 {
		out = append(out, all^1<<i)
	}
	return out
}

func TestPteKindEverySign(t *testing.T) {
	uppers := []uint64{0, 0x3ff << 54}
	for i := 54; i < 64; i++ {
		uppers = append(uppers, 1<<i)
	}
	for low := range uint64(1024) {
		for _, ppn := range somePpns() {
			for _, upper := range uppers {
				pte := upper | ppn<<10 | low
				for level := int64(-1); level <= 3; level++ {
					if got, want := impl.PteKind(pte, level), wantKind(pte, level); got != want {
						t.Fatalf("%#x at level %d: %d, want %d", pte, level, got, want)
					}
				}
			}
		}
	}
}

func TestPteKindWrongLevels(t *testing.T) {
	for _, level := range wrongSmalls {
		for low := range uint64(1024) {
			for _, pte := range []uint64{low, low | 1<<16, low | 1<<53, low | 1<<63} {
				if got := impl.PteKind(pte, level); got != impl.PteBad {
					t.Fatalf("%#x at level %d: %d", pte, level, got)
				}
			}
		}
	}
}

func TestGrantedRows(t *testing.T) {
	const R, W, X, U, A, D = impl.BitR, impl.BitW, impl.BitX, impl.BitU, impl.BitA, impl.BitD
	const fetch, load, store, user, super = impl.KindFetch, impl.KindLoad, impl.KindStore, impl.ModeU, impl.ModeS
	type flags struct{ sum, mxr bool }
	none, sum, mxr, both := flags{}, flags{sum: true}, flags{mxr: true}, flags{true, true}
	rows := []struct {
		pte  uint64
		kind int64
		mode int64
		f    flags
		want bool
	}{
		{X + A, fetch, super, none, true},
		{X, fetch, super, none, false},
		{R + A, fetch, super, both, false},
		{X + U + A, fetch, user, none, true},
		{X + A, fetch, user, both, false},
		{X + U + A, fetch, super, both, false},
		{R + A, load, super, none, true},
		{R, load, super, both, false},
		{X + A, load, super, sum, false},
		{X + A, load, super, mxr, true},
		{W + A, load, super, both, false},
		{R + U + A, load, super, mxr, false},
		{R + U + A, load, super, sum, true},
		{X + U + A, load, super, both, true},
		{X + U + A, load, user, mxr, true},
		{X + U + A, load, user, sum, false},
		{R + A, load, user, both, false},
		{W + A + D, store, super, none, true},
		{W + A, store, super, both, false},
		{W + D, store, super, both, false},
		{R + X + A + D, store, super, both, false},
		{W + U + A + D, store, super, mxr, false},
		{W + U + A + D, store, super, sum, true},
		{W + U + A + D, store, user, none, true},
		{W + A + D, store, user, both, false},
		{R + W + X + U + A + D, load, impl.ModeM, both, false},
		{R + W + X + A + D, store, impl.ModeM, both, false},
		{R + W + X + A + D, 3, super, both, false},
		{R + W + X + A + D, -1, super, both, false},
		{R + W + X + U + A + D, load, -1, both, false},
	}
	for _, r := range rows {
		if got := impl.Granted(r.pte, r.kind, r.mode, r.f.sum, r.f.mxr); got != r.want {
			t.Errorf("%#x, kind %d, mode %d, %+v: %v, want %v", r.pte, r.kind, r.mode, r.f, got, r.want)
		}
	}
}

// The other bits of the entry (V, G and all above D) must change nothing.
func TestGrantedEveryChoice(t *testing.T) {
	others := []uint64{0, 1, 32, 33, 1 << 8, 1 << 9, 1 << 10, 1 << 53, 1 << 54, 1 << 63, ^uint64(255) | 33}
	for low := range uint64(256) {
		for _, kind := range zeroToTwo() {
			for _, mode := range zeroToTwo() {
				for flags := range 4 {
					sum, mxr := flags%2 == 1, flags/2 == 1
					want := wantGranted(low, kind, mode, sum, mxr)
					for _, other := range others {
						if got := impl.Granted(low^other, kind, mode, sum, mxr); got != want {
							t.Fatalf("%#x, kind %d, mode %d, sum %v, mxr %v: %v, want %v", low^other, kind, mode, sum, mxr, got, want)
						}
					}
				}
			}
		}
	}
}

func TestPhysOfRows(t *testing.T) {
	const all = uint64(1)<<44 - 1
	rows := []struct {
		ppn   uint64
		level int64
		va    uint64
		want  uint64
	}{
		{7, 0, 69, 453},
		{0, 0, 63, 63},
		{0, 0, 64, 0},
		{8, 1, 582, 582},
		{9, 1, 3, 515},
		{15, 1, 511, 1023},
		{15, 1, 512, 512},
		{0, 2, 4196, 100},
		{64, 2, 4095, 8191},
		{127, 2, 0, 4096},
		{all, 0, 0, 0x3ffffffffffc0},
		{all, 0, math.MaxUint64, 0x3ffffffffffff},
		{all, 1, 0, 0x3fffffffffe00},
		{all, 2, 0, 0x3fffffffff000},
		{all, 2, math.MaxUint64, 0x3ffffffffffff},
		{5, 0, 0xffffffffffffc001, 321},
		{5, 0, 1<<63 + 2, 322},
		{all, 3, 5, 0},
		{all, -1, 5, 0},
	}
	for _, r := range rows {
		for _, low := range []uint64{0, 1, 207, 1023} {
			if got := impl.PhysOf(r.ppn<<10+low, r.level, r.va); got != r.want {
				t.Errorf("ppn %#x, low bits %d, level %d, va %#x: %#x, want %#x", r.ppn, low, r.level, r.va, got, r.want)
			}
		}
	}
}

func TestPhysOfEveryLevel(t *testing.T) {
	vas := []uint64{math.MaxUint64, 0x5555555555555555, 0xaaaaaaaaaaaaaaaa, 1<<63 + 4095, 0xffffffffffffc000}
	for i := range 64 {
		vas = append(vas, 1<<i, 1<<i-1)
	}
	for _, level := range zeroToTwo() {
		for _, ppn := range somePpns() {
			for _, other := range []uint64{0, 1023, 0x3ff << 54, 0x3ff<<54 | 1} {
				pte := ppn<<10 | other
				for _, va := range vas {
					if got, want := impl.PhysOf(pte, level, va), wantPhys(pte, level, va); got != want {
						t.Fatalf("%#x at level %d, va %#x: %#x, want %#x", pte, level, va, got, want)
					}
				}
			}
		}
	}
}

// The names of the bits are part of what a caller builds on.
func TestPteBitValues(t *testing.T) {
	got := []uint64{impl.BitV, impl.BitR, impl.BitW, impl.BitX, impl.BitU, impl.BitG, impl.BitA, impl.BitD}
	for i, b := range got {
		if b != 1<<i {
			t.Errorf("bit %d has the value %d", i, b)
		}
	}
}
