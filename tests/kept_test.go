package tests

import (
	"slices"
	"testing"

	"loop.example/s0051/impl"
)

// The tests of promise 11: what stands in a cache has stood in the memory.

// stood has every eight bytes that stood at a multiple of eight so far.
type stood map[uint64]struct{}

func (s stood) add(mem []byte) {
	for addr := uint64(0); addr < uint64(len(mem)); addr += 8 {
		s[wantRead(mem, addr, 8).Val] = struct{}{}
	}
}

// keptCounts tells what the caches came to hold, so that none of it is left out by chance.
type keptCounts struct {
	entries [3]int
	stale   [3]int
}

// checkKept asks of each entry whether it stood in memory. An entry is stale when it does not any more.
func checkKept(t *testing.T, b []byte, counts *keptCounts) {
	t.Helper()
	script := impl.DecodeScript(b)
	h, past := script.Hart, stood{}
	past.add(h.Mem)
	for i, pick := range script.Picks {
		step := impl.StepHart(h, false, pick)
		if !step.Ok {
			t.Fatalf("text % x: step %d fails", b, i)
		}
		if !slices.Equal(h.Mem, step.Hart.Mem) {
			past.add(step.Hart.Mem)
		}
		h = step.Hart
		now := stood{}
		if i%16 == 0 {
			now.add(h.Mem)
		}
		for j, tlb := range []impl.Tlb{h.Caches.I, h.Caches.D, h.Caches.P} {
			for _, e := range tlb.Entries {
				if !e.Valid {
					continue
				}
				if _, did := past[e.Pte]; !did {
					t.Fatalf("text % x: after step %d, cache %d holds %+v, which never stood in memory", b, i, j, e)
				}
				counts.entries[j]++
				if _, does := now[e.Pte]; i%16 == 0 && !does {
					counts.stale[j]++
				}
			}
		}
	}
}

func TestKeptStoodInMemory(t *testing.T) {
	d := dice(1111)
	counts := keptCounts{}
	for range 500 {
		checkKept(t, someProgram(&d, 200), &counts)
	}
	for range 300 {
		checkKept(t, someText(&d), &counts)
	}
	for j := range 3 {
		if counts.entries[j] < 1000 || counts.stale[j] < 25 {
			t.Errorf("cache %d held %d entries, %d of them stale", j, counts.entries[j], counts.stale[j])
		}
	}
}

// Entries that a store over two table entries makes are good as well: they stand at a multiple of eight after the step.
func TestKeptAfterStoresIntoTables(t *testing.T) {
	load, fence := ins(5, 3, 2, 0, 0), ins(11, 2, 0, 0, 0)
	counts := keptCounts{}
	for c := range 4 {
		for shift := range 17 {
			h := pagedHart(impl.ModeS, slices.Concat(load, ins(6, 6, 4, c, shift), fence, load)...)
			setPage(&h, 8, "ok")
			put8(h.Mem, 256+8, 4<<10|fullLeaf)
			h.Regs[2], h.Regs[4], h.Regs[6] = 512, 576-8, 0x3cf
			h.Mem[255] = 0
			put8(h.Mem, 192+56, 4<<10|fullLeaf)
			checkKept(t, textOf(h, []int64{0, 0, 0, 0, 128, 129}), &counts)
		}
	}
	if counts.entries[1] < 100 {
		t.Errorf("D held %d entries", counts.entries[1])
	}
}
