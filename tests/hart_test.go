package tests

import (
	"math"
	"testing"

	"loop.example/s0051/impl"
)

// The tests of promise 9, part one: which harts are valid, and that no others make a step.

// smallHart runs the code at 0, over two pages and without translation; each register tells its number.
func smallHart(mode int64, code ...byte) impl.Hart {
	h := impl.Hart{Mem: make([]byte, 128), Regs: make([]uint64, 8), Mode: mode, Tvec: 64, Caches: emptyCaches(6)}
	for i := range h.Regs {
		h.Regs[i] = 0x1111111111111111 * uint64(i)
	}
	copy(h.Mem, code)
	return h
}

func checkValid(t *testing.T, what string, h impl.Hart, want bool) {
	t.Helper()
	before := cloneHart(h)
	if got := impl.ValidHart(h); got != want || got != wantHartValid(before) {
		t.Errorf("%s: valid is %v, want %v", what, got, want)
	}
	if !sameHart(h, before) {
		t.Errorf("%s: the argument was written into", what)
	}
	for _, pick := range []int64{0, 128} {
		for _, step := range checkBoth(t, h, pick) {
			if step.Ok != want || !want && !sameStep(step, impl.StepRes{}) {
				t.Errorf("%s, pick %d: %+v", what, pick, step)
			}
		}
	}
}

func TestHartMemory(t *testing.T) {
	for size := range 4300 {
		h := smallHart(impl.ModeM)
		h.Mem = make([]byte, size)
		want := size >= 64 && size <= 4096 && size%64 == 0
		if size%64 < 2 || size%64 == 63 || size == 4160 {
			checkValid(t, "memory", h, want)
		} else if impl.ValidHart(h) != want {
			t.Errorf("memory of %d bytes", size)
		}
	}
	for size, want := range map[int]bool{0: false, 63: false, 64: true, 65: false, 4096: true, 4160: false} {
		h := smallHart(impl.ModeM)
		h.Mem = make([]byte, size)
		checkValid(t, "memory", h, want)
	}
	h := smallHart(impl.ModeM)
	h.Mem = nil
	checkValid(t, "no memory", h, false)
}

func TestHartRegisters(t *testing.T) {
	for count := range 20 {
		h := smallHart(impl.ModeM)
		h.Regs = make([]uint64, count)
		checkValid(t, "registers", h, count == 8)
	}
	for i := range 8 {
		for _, val := range []uint64{1, 1 << 63, math.MaxUint64} {
			h := smallHart(impl.ModeM)
			h.Regs[i] = val
			checkValid(t, "a register", h, i != 0)
		}
	}
	h := smallHart(impl.ModeM)
	h.Regs = nil
	checkValid(t, "no registers", h, false)
}

func TestHartNumbers(t *testing.T) {
	for mode, want := range map[int64]bool{math.MinInt64: false, -1: false, 0: true, 1: true, 2: true, 3: false, 256: false, math.MaxInt64: false} {
		h := smallHart(mode)
		checkValid(t, "mode", h, want)
		h = smallHart(impl.ModeM)
		h.Emode = mode
		checkValid(t, "emode", h, want)
	}
	for cause, want := range map[int64]bool{math.MinInt64: false, -1: false, 0: true, 1: true, 62: true, 63: true, 64: false, math.MaxInt64: false} {
		h := smallHart(impl.ModeM)
		h.Cause = cause
		checkValid(t, "cause", h, want)
	}
	for scheme := range uint64(16) {
		for _, rest := range []uint64{0, 1, 1<<60 - 1} {
			for mode := range int64(3) {
				h := smallHart(mode)
				h.Satp = scheme<<60 | rest
				checkValid(t, "scheme", h, scheme == 0 || scheme == 8)
			}
		}
	}
	for i := range uint64(8) {
		h := smallHart(impl.ModeM)
		h.Tvec = i
		checkValid(t, "tvec", h, i%4 == 0)
		h.Tvec = i - 8
		checkValid(t, "tvec near 2^64", h, i%4 == 0)
	}
	for _, x := range []uint64{0, 1, 3, 1 << 14, math.MaxUint64} {
		h := smallHart(impl.ModeM)
		h.Pc, h.Epc, h.Tval, h.Sum, h.Mxr = x, x, x, x%2 == 1, x%4 > 1
		checkValid(t, "numbers that may be any", h, true)
	}
}

func TestHartCaches(t *testing.T) {
	leaves, pointers := emptyTlb(2, 2), emptyTlb(1, 3)
	leaves.Entries[3], pointers.Entries[1] = leafAt(0, 5, 65535, 0), pointerAt(2, 7, 3, 9, impl.BitG)
	good := impl.Caches{I: leaves, D: cloneTlb(leaves), P: pointers}
	with := func(what string, k impl.Caches, want bool) {
		t.Helper()
		h := smallHart(impl.ModeS, impl.InsLi, 1, 0, 0)
		h.Caches = k
		checkValid(t, what, h, want)
	}
	with("good caches", good, true)
	with("no caches", impl.Caches{}, false)
	for _, wrong := range wrongTlbs() {
		with("a wrong I", impl.Caches{I: wrong, D: leaves, P: pointers}, false)
		with("a wrong D", impl.Caches{I: leaves, D: wrong, P: pointers}, false)
		with("a wrong P", impl.Caches{I: leaves, D: leaves, P: wrong}, false)
	}
	with("pointers in I", impl.Caches{I: pointers, D: leaves, P: pointers}, false)
	with("pointers in D", impl.Caches{I: leaves, D: pointers, P: pointers}, false)
	with("leaves in P", impl.Caches{I: leaves, D: leaves, P: leaves}, false)
	for shape := range int64(16) {
		with("empty caches", emptyCaches(shape), true)
	}
}

func TestHartPicks(t *testing.T) {
	for _, mode := range []int64{impl.ModeU, impl.ModeM} {
		h := smallHart(mode, impl.InsLi, 1, 0, 7)
		for pick := int64(-3); pick < 260; pick++ {
			for _, step := range checkBoth(t, h, pick) {
				if step.Ok != (pick >= 0 && pick <= 255) {
					t.Errorf("pick %d: %+v", pick, step)
				}
			}
		}
		for _, pick := range []int64{math.MinInt64, -256, -1, 256, 384, 512, math.MaxInt64} {
			for _, step := range checkBoth(t, h, pick) {
				if !sameStep(step, impl.StepRes{}) {
					t.Errorf("pick %d: %+v", pick, step)
				}
			}
		}
	}
}
