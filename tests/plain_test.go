package tests

import (
	"bytes"
	"testing"

	"loop.example/s0051/impl"
)

// The tests of promise 4: PlainTranslate gives exactly the cause and address of chapter 3.

const satpOn = uint64(8) << 60

func wantTrans(mem []byte, c impl.Ctx, kind int64, va uint64) impl.Trans {
	if kind < 0 || kind > 2 || c.Mode < 0 || c.Mode > 2 {
		return impl.Trans{Cause: 63}
	}
	if c.Mode == 2 || c.Satp/(1<<60) != 8 {
		return impl.Trans{Pa: va}
	}
	page, access := []int64{12, 13, 15}[kind], []int64{1, 5, 7}[kind]
	w := wantWalk(mem, c.Satp, va)
	if w.Code == impl.WalkAccess {
		return impl.Trans{Cause: access}
	}
	if w.Code == impl.WalkPage || !wantGranted(w.Pte, kind, c.Mode, c.Sum, c.Mxr) {
		return impl.Trans{Cause: page}
	}
	return impl.Trans{Pa: wantPhys(w.Pte, w.Level, va)}
}

func checkPlain(t *testing.T, mem []byte, c impl.Ctx, kind int64, va uint64) impl.Trans {
	t.Helper()
	before := bytes.Clone(mem)
	got, want := impl.PlainTranslate(mem, c, kind, va), wantTrans(before, c, kind, va)
	if got != want {
		t.Fatalf("len %d, %+v, kind %d, va %#x: %+v, want %+v", len(mem), c, kind, va, got, want)
	}
	if !bytes.Equal(mem, before) {
		t.Fatalf("len %d, %+v, kind %d, va %#x: the translation wrote into its argument", len(mem), c, kind, va)
	}
	return got
}

func TestPlainRows(t *testing.T) {
	mem := exampleMem()
	put8(mem, 208, 7<<10|impl.BitV|impl.BitR|impl.BitA)
	put8(mem, 216, 5<<10|impl.BitV|impl.BitR|impl.BitW|impl.BitX|impl.BitU|impl.BitA|impl.BitD)
	put8(mem, 224, 6<<10|impl.BitV|impl.BitX|impl.BitA)
	put8(mem, 232, allPpn<<10|impl.BitV|impl.BitR|impl.BitA)
	super := impl.Ctx{Mode: impl.ModeS, Satp: satpOn + 1}
	user := impl.Ctx{Mode: impl.ModeU, Satp: satpOn + 1}
	sum := impl.Ctx{Mode: impl.ModeS, Sum: true, Satp: satpOn + 1}
	mxr := impl.Ctx{Mode: impl.ModeS, Mxr: true, Satp: satpOn + 1}
	rows := []struct {
		c    impl.Ctx
		kind int64
		va   uint64
		want impl.Trans
	}{
		{super, impl.KindFetch, 69, impl.Trans{Pa: 453}},
		{super, impl.KindLoad, 69, impl.Trans{Pa: 453}},
		{super, impl.KindStore, 69, impl.Trans{Pa: 453}},
		{super, impl.KindLoad, 582, impl.Trans{Pa: 582}},
		{super, impl.KindStore, 1023, impl.Trans{Pa: 1023}},
		{super, impl.KindFetch, 4196, impl.Trans{Pa: 100}},
		{super, impl.KindLoad, 8191, impl.Trans{Pa: 4095}},
		{super, impl.KindFetch, 1024, impl.Trans{Cause: impl.CauseFetchPage}},
		{super, impl.KindLoad, 1024, impl.Trans{Cause: impl.CauseLoadPage}},
		{super, impl.KindStore, 1024, impl.Trans{Cause: impl.CauseStorePage}},
		{super, impl.KindFetch, 1536, impl.Trans{Cause: impl.CauseFetchAccess}},
		{super, impl.KindLoad, 1536, impl.Trans{Cause: impl.CauseLoadAccess}},
		{super, impl.KindStore, 1536, impl.Trans{Cause: impl.CauseStoreAccess}},
		{super, impl.KindFetch, 16384, impl.Trans{Cause: impl.CauseFetchPage}},
		{super, impl.KindLoad, 1 << 63, impl.Trans{Cause: impl.CauseLoadPage}},
		{super, impl.KindStore, 1<<64 - 16385, impl.Trans{Cause: impl.CauseStorePage}},
		{super, impl.KindFetch, 128, impl.Trans{Cause: impl.CauseFetchPage}},
		{super, impl.KindLoad, 130, impl.Trans{Pa: 450}},
		{super, impl.KindStore, 128, impl.Trans{Cause: impl.CauseStorePage}},
		{user, impl.KindFetch, 69, impl.Trans{Cause: impl.CauseFetchPage}},
		{user, impl.KindLoad, 69, impl.Trans{Cause: impl.CauseLoadPage}},
		{user, impl.KindStore, 69, impl.Trans{Cause: impl.CauseStorePage}},
		{user, impl.KindFetch, 195, impl.Trans{Pa: 323}},
		{user, impl.KindStore, 195, impl.Trans{Pa: 323}},
		{super, impl.KindLoad, 195, impl.Trans{Cause: impl.CauseLoadPage}},
		{sum, impl.KindLoad, 195, impl.Trans{Pa: 323}},
		{sum, impl.KindStore, 195, impl.Trans{Pa: 323}},
		{sum, impl.KindFetch, 195, impl.Trans{Cause: impl.CauseFetchPage}},
		{super, impl.KindLoad, 256, impl.Trans{Cause: impl.CauseLoadPage}},
		{mxr, impl.KindLoad, 257, impl.Trans{Pa: 385}},
		{mxr, impl.KindStore, 256, impl.Trans{Cause: impl.CauseStorePage}},
		{super, impl.KindLoad, 320 + 7, impl.Trans{Pa: allPpn<<6 + 7}},
	}
	for _, r := range rows {
		if got := impl.PlainTranslate(mem, r.c, r.kind, r.va); got != r.want {
			t.Errorf("%+v, kind %d, va %#x: %+v, want %+v", r.c, r.kind, r.va, got, r.want)
		}
	}
}

// A root that is not there is an access fault of each kind; a wrong address comes before it.
func TestPlainRootOutside(t *testing.T) {
	causes := []impl.Trans{{Cause: impl.CauseFetchAccess}, {Cause: impl.CauseLoadAccess}, {Cause: impl.CauseStoreAccess}}
	pages := []impl.Trans{{Cause: impl.CauseFetchPage}, {Cause: impl.CauseLoadPage}, {Cause: impl.CauseStorePage}}
	for _, mem := range [][]byte{nil, {1, 2, 3}, exampleMem()} {
		for _, root := range []uint64{16, 1 << 20, 1 << 43, allPpn} {
			for kind := range int64(3) {
				c := impl.Ctx{Mode: impl.ModeS, Satp: satpOn | root}
				if got := impl.PlainTranslate(mem, c, kind, 0); got != causes[kind] {
					t.Errorf("root %#x, kind %d: %+v", root, kind, got)
				}
				if got := impl.PlainTranslate(mem, c, kind, 1<<14); got != pages[kind] {
					t.Errorf("root %#x, kind %d, va not canonical: %+v", root, kind, got)
				}
			}
		}
	}
}

// CauseBad comes ahead of everything else: translation off, faults, memory.
func TestPlainWrongKindsAndModes(t *testing.T) {
	bad := impl.Trans{Cause: impl.CauseBad}
	for _, mem := range [][]byte{nil, exampleMem()} {
		for _, wrong := range wrongSmalls {
			for scheme := range uint64(16) {
				for _, va := range []uint64{69, 1024, 1536, 16384} {
					for right := range int64(3) {
						satp := scheme<<60 | 1
						if got := impl.PlainTranslate(mem, impl.Ctx{Mode: right, Satp: satp}, wrong, va); got != bad {
							t.Fatalf("kind %d, mode %d, scheme %d, va %d: %+v", wrong, right, scheme, va, got)
						}
						if got := impl.PlainTranslate(mem, impl.Ctx{Mode: wrong, Satp: satp}, right, va); got != bad {
							t.Fatalf("kind %d, mode %d, scheme %d, va %d: %+v", right, wrong, scheme, va, got)
						}
					}
					if got := impl.PlainTranslate(mem, impl.Ctx{Mode: wrong, Satp: scheme<<60 | 1}, wrong, va); got != bad {
						t.Fatalf("kind and mode %d, scheme %d, va %d: %+v", wrong, scheme, va, got)
					}
				}
			}
		}
	}
}

func TestPlainTranslationOff(t *testing.T) {
	for _, mem := range [][]byte{nil, exampleMem()} {
		for mode := range int64(3) {
			for scheme := range uint64(16) {
				if scheme == 8 && mode != impl.ModeM {
					continue
				}
				for kind := range int64(3) {
					for _, va := range []uint64{0, 69, 1024, 1536, 16383, 16384, 1 << 63, 1<<64 - 16385, 1<<64 - 1} {
						for flags := range 4 {
							c := impl.Ctx{Mode: mode, Sum: flags%2 == 1, Mxr: flags/2 == 1, Satp: scheme<<60 | 1}
							if got := impl.PlainTranslate(mem, c, kind, va); got != (impl.Trans{Cause: impl.CauseNone, Pa: va}) {
								t.Fatalf("%+v, kind %d, va %#x: %+v", c, kind, va, got)
							}
						}
					}
				}
			}
		}
	}
}

func TestPlainAsidMeansNothing(t *testing.T) {
	mem := exampleMem()
	for _, va := range []uint64{69, 582, 4196, 1024, 1536, 16384} {
		for kind := range int64(3) {
			for mode := range int64(2) {
				want := impl.PlainTranslate(mem, impl.Ctx{Mode: mode, Satp: satpOn | 1}, kind, va)
				for i := 44; i < 60; i++ {
					for _, asid := range []uint64{1 << i, 0xffff << 44, 0xffff<<44 ^ 1<<i} {
						c := impl.Ctx{Mode: mode, Satp: satpOn | asid | 1}
						if got := impl.PlainTranslate(mem, c, kind, va); got != want {
							t.Errorf("%+v, kind %d, va %d: %+v, want %+v", c, kind, va, got, want)
						}
					}
				}
			}
		}
	}
}

// One leaf of every sign, at every level, for every kind and context.
func TestPlainEveryLeaf(t *testing.T) {
	for level := range 3 {
		for low := range uint64(256) {
			mem := make([]byte, 256)
			put8(mem, 0, 1<<10|impl.BitV)
			put8(mem, 64, 2<<10|impl.BitV)
			put8(mem, []int{128, 64, 0}[level], 3<<16|low)
			for kind := int64(-1); kind <= 3; kind++ {
				for mode := int64(-1); mode <= 3; mode++ {
					for flags := range 4 {
						c := impl.Ctx{Mode: mode, Sum: flags%2 == 1, Mxr: flags/2 == 1, Satp: satpOn}
						checkPlain(t, mem, c, kind, 13)
					}
				}
			}
		}
	}
}

func TestPlainGenerated(t *testing.T) {
	d := dice(31)
	seen := map[int64]int{}
	sizes := []int{64, 256, 1024, 4096, 0, 7, 63, 130}
	for round := range 4000 {
		mem := someTables(&d, sizes[round%len(sizes)])
		for range 60 {
			c := impl.Ctx{Mode: int64(d.below(2)), Sum: d.below(2) == 1, Mxr: d.below(2) == 1, Satp: satpOn | d.below(1<<16)<<44 | d.below(uint64(len(mem)/64+1))}
			switch d.below(16) {
			case 0:
				c.Mode = int64(d.below(6)) - 1
			case 1:
				c.Satp = d.next()
			}
			kind := int64(d.below(3))
			if d.below(32) == 0 {
				kind = int64(d.below(6)) - 1
			}
			seen[checkPlain(t, mem, c, kind, someVa(&d)).Cause]++
		}
	}
	for _, cause := range []int64{0, 1, 5, 7, 12, 13, 15, 63} {
		if seen[cause] < 100 {
			t.Errorf("cause %d came only %d times", cause, seen[cause])
		}
	}
}
