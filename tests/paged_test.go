package tests

import (
	"bytes"
	"math"
	"slices"
	"testing"

	"loop.example/s0051/impl"
)

// The tests of promise 9, part three: steps through page tables, what a trap keeps and takes back, fences and picks.

const fullLeaf = impl.BitV | impl.BitR | impl.BitW | impl.BitX | impl.BitA | impl.BitD

// pagedHart has its root at page 1 and one table of level 1 at page 2, for the lowest and the highest addresses. The
// tables of level 0 at the pages 3, 4 and 5 are for the virtual pages 0..7, 8..15 and those from 16 on; 5 is the last
// one too. Code runs at 1024 (virtual page 16) and lies in page 6.
func pagedHart(mode int64, code ...byte) impl.Hart {
	h := impl.Hart{Mem: make([]byte, 1024), Regs: make([]uint64, 8), Pc: 1024, Mode: mode, Tvec: 448, Satp: satpOn | 9<<44 | 1}
	h.Caches = impl.Caches{I: emptyTlb(2, 2), D: emptyTlb(2, 2), P: emptyTlb(1, 4)}
	for i := range h.Regs {
		h.Regs[i] = 0x1111111111111111 * uint64(i)
	}
	for i := 448; i < 1024; i++ {
		h.Mem[i] = byte(i * 7)
	}
	put8(h.Mem, 64, 2<<10|impl.BitV)
	put8(h.Mem, 64+56, 2<<10|impl.BitV)
	put8(h.Mem, 128, 3<<10|impl.BitV)
	put8(h.Mem, 128+8, 4<<10|impl.BitV)
	put8(h.Mem, 128+16, 5<<10|impl.BitV)
	put8(h.Mem, 128+56, 5<<10|impl.BitV)
	put8(h.Mem, 320, 6<<10|codeBits(mode))
	copy(h.Mem[384:], code)
	return h
}

func codeBits(mode int64) uint64 {
	if mode == impl.ModeU {
		return fullLeaf | impl.BitU
	}
	return fullLeaf
}

func TestPagedFetch(t *testing.T) {
	for _, mode := range []int64{impl.ModeU, impl.ModeS} {
		li := ins(1, 1, 0, 0, 7)
		wantCausesOfFetch(t, "a good page", pagedHart(mode, li...), 0)
		rows := map[string]struct {
			addr  int
			pte   uint64
			cause int64
		}{
			"no leaf":              {320, 0, impl.CauseFetchPage},
			"a leaf without X":     {320, 6<<10 | codeBits(mode)&^impl.BitX, impl.CauseFetchPage},
			"a leaf without A":     {320, 6<<10 | codeBits(mode)&^impl.BitA, impl.CauseFetchPage},
			"a leaf without D":     {320, 6<<10 | codeBits(mode)&^impl.BitD, 0},
			"of the other mode":    {320, 6<<10 | codeBits(1-mode), impl.CauseFetchPage},
			"no table":             {144, 0, impl.CauseFetchPage},
			"a table past the end": {144, 16<<10 | impl.BitV, impl.CauseFetchAccess},
			"a page past the end":  {320, 16<<10 | codeBits(mode), impl.CauseFetchAccess},
			"the greatest page":    {320, allPpn<<10 | codeBits(mode), impl.CauseFetchAccess},
		}
		for what, r := range rows {
			h := pagedHart(mode, li...)
			put8(h.Mem, r.addr, r.pte)
			wantCausesOfFetch(t, what, h, r.cause)
		}
		h := pagedHart(mode, li...)
		h.Satp = satpOn | 16
		wantCausesOfFetch(t, "a root past the end", h, impl.CauseFetchAccess)
		h.Satp, h.Pc = satpOn|1, 1<<14
		wantCausesOfFetch(t, "not canonical", h, impl.CauseFetchPage)
	}
}

func wantCausesOfFetch(t *testing.T, what string, h impl.Hart, cause int64) {
	t.Helper()
	if cause != 0 {
		wantTrap(t, what, h, cause, h.Pc)
		return
	}
	for _, got := range checkBoth(t, h, 0) {
		if got.Cause != 0 || got.Hart.Regs[1] != 7 || got.Hart.Pc != h.Pc+4 {
			t.Errorf("%s: %+v", what, got)
		}
	}
}

// The pc goes over from the highest page to the lowest, by one step and by jumps.
func TestPagedPcWraps(t *testing.T) {
	h := pagedHart(impl.ModeS)
	put8(h.Mem, 320+56, 7<<10|fullLeaf)
	put8(h.Mem, 192, 6<<10|fullLeaf)
	copy(h.Mem[448+60:], ins(1, 1, 0, 0, 7))
	copy(h.Mem[384:], ins(8, 1, 0, 0, -1))
	h.Pc = math.MaxUint64 - 3
	for i, got := range checkBoth(t, h, 0) {
		if got.Cause != 0 || got.Hart.Pc != 0 || got.Hart.Regs[1] != 7 {
			t.Errorf("over 2^64: %+v", got)
		}
		if back := checkStep(t, got.Hart, i == 1, 0); back.Cause != 0 || back.Hart.Pc != math.MaxUint64-3 {
			t.Errorf("and back: %+v", back)
		}
	}
}

// pageStates are what can stand behind a page that an access touches.
func pageStates() []string {
	return []string{"ok", "no leaf", "denied", "no table", "outside"}
}

// setPage lets the virtual page 7 or 8 be of a state. A good one is the page 10 or 12.
func setPage(h *impl.Hart, page int, state string) {
	pointer, leaf, good := 128, 192+56, uint64(10)
	if page == 8 {
		pointer, leaf, good = 136, 256, 12
	}
	bits := codeBits(h.Mode)
	put8(h.Mem, leaf, good<<10|bits)
	switch state {
	case "no leaf":
		put8(h.Mem, leaf, good<<10|bits&^impl.BitV)
	case "denied":
		put8(h.Mem, leaf, good<<10|bits&^impl.BitA)
	case "no table":
		put8(h.Mem, pointer, 16<<10|impl.BitV)
	case "outside":
		put8(h.Mem, leaf, 16<<10|bits)
	}
}

// wantEnd is the order of 5.3: both translations, then both places.
func wantEnd(states [2]string, begins [2]uint64, kind int64) (int64, uint64) {
	page, access := []int64{12, 13, 15}[kind], []int64{1, 5, 7}[kind]
	for i, state := range states {
		if state == "no leaf" || state == "denied" {
			return page, begins[i]
		}
		if state == "no table" {
			return access, begins[i]
		}
	}
	for i, state := range states {
		if state == "outside" {
			return access, begins[i]
		}
	}
	return 0, 0
}

// Accesses over the border between two pages, each of which is good or bad in each way.
func TestPagedAccessesOverTwoPages(t *testing.T) {
	for _, first := range pageStates() {
		for _, second := range pageStates() {
			for op := 5; op <= 7; op++ {
				for c := range 4 {
					width := 1 << c
					if op == 7 {
						width = 8
					}
					for left := 1; left < width; left++ {
						for _, mode := range []int64{impl.ModeU, impl.ModeS} {
							checkOver(t, first, second, op, c, uint64(left), mode)
						}
					}
				}
			}
		}
	}
}

func checkOver(t *testing.T, first string, second string, op int, c int, left uint64, mode int64) {
	t.Helper()
	h := pagedHart(mode, ins(op, 3, 2, c, -9)...)
	h.Regs[2] = 512 - left + 9
	setPage(&h, 7, first)
	setPage(&h, 8, second)
	kind := int64(impl.KindStore)
	if op == 5 {
		kind = impl.KindLoad
	}
	cause, tval := wantEnd([2]string{first, second}, [2]uint64{512 - left, 512}, kind)
	if cause != 0 {
		wantTrap(t, first+" then "+second, h, cause, tval)
		return
	}
	width := uint64(1) << c
	if op == 7 {
		width = 8
	}
	place := func(i uint64) uint64 {
		if i < left {
			return 10*64 + 64 - left + i
		}
		return 12*64 + i - left
	}
	read := uint64(0)
	for i := range width {
		read |= uint64(h.Mem[place(i)]) << (8 * i)
	}
	want := cloneHart(h)
	want.Pc += 4
	written := []uint64{read, h.Regs[3], read + h.Regs[c]}[op-5]
	for i := range width {
		want.Mem[place(i)] = byte(written >> (8 * i))
	}
	if op != 6 {
		want.Regs[3] = read
	}
	for _, got := range checkBoth(t, h, 0) {
		want.Caches = got.Hart.Caches
		if got.Cause != 0 || !sameHart(got.Hart, want) {
			t.Fatalf("op %d, width %d, %d bytes left: %+v, want %+v", op, width, left, got, want)
		}
	}
}

// The two parts may lie in one page, the second before the first, and the access may go over 2^64.
func TestPagedPartsOfOnePage(t *testing.T) {
	for _, border := range []uint64{512, 0} {
		for left := uint64(1); left < 8; left++ {
			for _, c := range []int{3, 4, 0} {
				h := pagedHart(impl.ModeS, ins(7, 3, 2, c, 0)...)
				put8(h.Mem, 192+56, 10<<10|fullLeaf)
				put8(h.Mem, 256, 10<<10|fullLeaf)
				put8(h.Mem, 320+56, 10<<10|fullLeaf)
				put8(h.Mem, 192, 10<<10|fullLeaf)
				h.Regs[2] = border - left
				was := slices.Concat(h.Mem[704-left:704], h.Mem[640:648-left])
				val := wantRead(was, 0, 8).Val
				now := wantWrite(was, 0, 8, val+h.Regs[c])
				for _, got := range checkBoth(t, h, 0) {
					mem := got.Hart.Mem
					if got.Cause != 0 || got.Hart.Regs[3] != val || !bytes.Equal(slices.Concat(mem[704-left:704], mem[640:648-left]), now) {
						t.Errorf("border %d, %d bytes left, xc is x%d: %+v", border, left, c, got)
					}
				}
			}
		}
	}
}

// Addresses at the edges of what is canonical, and near 2^64.
func TestPagedEdgesOfCanonical(t *testing.T) {
	for op := 5; op <= 7; op++ {
		page := map[int]int64{5: impl.CauseLoadPage, 6: impl.CauseStorePage, 7: impl.CauseStorePage}[op]
		rows := []struct {
			ea    uint64
			cause int64
			tval  uint64
		}{
			{1<<14 - 4, page, 1 << 14},
			{1<<14 - 8, 0, 0},
			{1 << 14, page, 1 << 14},
			{1<<64 - 1<<14 - 4, page, 1<<64 - 1<<14 - 4},
			{1<<64 - 1<<14, 0, 0},
			{math.MaxUint64 - 3, 0, 0},
			{math.MaxUint64, 0, 0},
			{math.MaxUint64 - 7, 0, 0},
			{1 << 63, page, 1 << 63},
		}
		for _, r := range rows {
			h := pagedHart(impl.ModeS, ins(op, 3, 2, 3, 1)...)
			for _, root := range []int{64 + 24, 64 + 32} {
				put8(h.Mem, root, 2<<10|impl.BitV)
			}
			for _, leaf := range []int{192, 192 + 56, 320 + 56} {
				put8(h.Mem, leaf, 10<<10|fullLeaf)
			}
			h.Regs[2] = r.ea - 1
			if r.cause != 0 {
				wantTrap(t, "an edge", h, r.cause, r.tval)
				continue
			}
			for _, got := range checkBoth(t, h, 0) {
				if got.Cause != 0 {
					t.Errorf("op %d at %#x: %+v", op, r.ea, got)
				}
			}
		}
	}
}

// Loads, stores and fetches of a leaf with every sign, under every status.
func TestPagedGrants(t *testing.T) {
	seen := map[int64]int{}
	for low := range uint64(256) {
		for flags := range int64(8) {
			for op := 5; op <= 7; op++ {
				h := pagedHart(flags%2, ins(op, 3, 2, 0, 0)...)
				h.Sum, h.Mxr = flags/2%2 == 1, flags/4 == 1
				h.Regs[2] = 512
				put8(h.Mem, 256, 10<<10|low)
				for _, got := range checkBoth(t, h, 0) {
					seen[got.Cause]++
				}
			}
		}
	}
	if seen[0] < 500 || seen[impl.CauseLoadPage] < 500 || seen[impl.CauseStorePage] < 500 {
		t.Errorf("causes: %v", seen)
	}
}

// The caches keep what the translations of a trapping step put in: of the fetch, and of both parts as far as they came.
func TestPagedTrapKeepsCaches(t *testing.T) {
	tags := func(tlb impl.Tlb) []uint64 {
		out := []uint64{}
		for _, e := range tlb.Entries {
			if e.Valid {
				out = append(out, uint64(e.Level)<<16|e.Tag)
			}
		}
		slices.Sort(out)
		return out
	}
	rows := []struct {
		first, second string
		d, p          []uint64
	}{
		{"no leaf", "ok", []uint64{}, []uint64{1 << 16, 1<<16 | 2, 2 << 16}},
		{"denied", "ok", []uint64{}, []uint64{1 << 16, 1<<16 | 2, 2 << 16}},
		{"no table", "ok", []uint64{}, []uint64{1 << 16, 1<<16 | 2, 2 << 16}},
		{"outside", "ok", []uint64{7, 8}, []uint64{1 << 16, 1<<16 | 1, 1<<16 | 2, 2 << 16}},
		{"ok", "no leaf", []uint64{7}, []uint64{1 << 16, 1<<16 | 1, 1<<16 | 2, 2 << 16}},
		{"ok", "outside", []uint64{7, 8}, []uint64{1 << 16, 1<<16 | 1, 1<<16 | 2, 2 << 16}},
		{"outside", "denied", []uint64{7}, []uint64{1 << 16, 1<<16 | 1, 1<<16 | 2, 2 << 16}},
	}
	for _, r := range rows {
		for op := 5; op <= 7; op++ {
			h := pagedHart(impl.ModeS, ins(op, 3, 2, 3, 0)...)
			h.Regs[2] = 508
			setPage(&h, 7, r.first)
			setPage(&h, 8, r.second)
			got := checkStep(t, h, false, 0)
			k := got.Hart.Caches
			if got.Cause == 0 || !slices.Equal(tags(k.I), []uint64{16}) || !slices.Equal(tags(k.D), r.d) || !slices.Equal(tags(k.P), r.p) {
				t.Errorf("%s then %s: cause %d, I %v, D %v, P %v", r.first, r.second, got.Cause, tags(k.I), tags(k.D), tags(k.P))
			}
			if plain := checkStep(t, h, true, 0); !sameCaches(plain.Hart.Caches, h.Caches) {
				t.Errorf("%s then %s: a plain step fills the caches", r.first, r.second)
			}
		}
	}
}

// What an instruction that is illegal in mode U would do is not done, but its fetch stays in the caches.
func TestPagedIllegalDoesNothing(t *testing.T) {
	for op := 9; op <= 13; op++ {
		for _, mode := range []int64{impl.ModeU, impl.ModeS} {
			if mode == impl.ModeS && op < 12 {
				continue
			}
			code := ins(op, 0, 0, 2, 3)
			h := pagedHart(mode, code...)
			h.Sum, h.Mxr, h.Epc, h.Emode = true, true, 4, impl.ModeM
			wantTrap(t, "illegal", h, impl.CauseIllegal, wantRead(code, 0, 4).Val)
			got := checkStep(t, h, false, 0).Hart
			if !got.Caches.I.Entries[0].Valid || !got.Caches.P.Entries[1].Valid {
				t.Errorf("op %d in mode %d: the fetch is lost: %+v", op, mode, got.Caches)
			}
		}
	}
}

// fullCaches have an entry at every place, and none of them fits what pagedHart fetches.
func fullCaches(shape int64) impl.Caches {
	k := emptyCaches(shape)
	for i, tlb := range []impl.Tlb{k.I, k.D, k.P} {
		for j := range tlb.Entries {
			set, way := uint64(int64(j)/tlb.Ways), uint64(int64(j)%tlb.Ways)
			tlb.Entries[j] = entryAt(i == 2, 1, set+8*way, 100+way, impl.BitG*(way/3))
		}
	}
	return k
}

func TestPicksThrowOut(t *testing.T) {
	for shape := range int64(16) {
		for pick := range int64(256) {
			h := smallHart(impl.ModeM, ins(1, 1, 0, 0, 7)...)
			h.Caches = fullCaches(shape)
			if !impl.ValidHart(h) {
				t.Fatalf("shape %d: %+v", shape, h.Caches)
			}
			want := cloneCaches(h.Caches)
			if pick >= 128 {
				for _, tlb := range []impl.Tlb{want.I, want.D, want.P} {
					tlb.Entries[(pick-128)%(tlb.Sets*tlb.Ways)] = impl.Entry{}
				}
			}
			if got := checkStep(t, h, false, pick); !sameCaches(got.Hart.Caches, want) {
				t.Errorf("shape %d, pick %d: %+v, want %+v", shape, pick, got.Hart.Caches, want)
			}
			if got := checkStep(t, h, true, pick); !sameCaches(got.Hart.Caches, h.Caches) {
				t.Errorf("shape %d, pick %d: a plain step changed the caches", shape, pick)
			}
			h.Pc = 2
			if got := checkStep(t, h, false, pick); got.Cause != impl.CauseAlign || !sameCaches(got.Hart.Caches, want) {
				t.Errorf("shape %d, pick %d, pc 2: %+v, want %+v", shape, pick, got.Hart.Caches, want)
			}
		}
	}
}

// The entry that a pick throws out is gone before the fetch; the fetch itself takes the pick for its way.
func TestPicksAndInsertion(t *testing.T) {
	h := pagedHart(impl.ModeS, ins(1, 1, 0, 0, 7)...)
	h.Caches.I = emptyTlb(1, 1)
	h = checkStep(t, h, false, 0).Hart
	h.Pc = 1024
	put8(h.Mem, 320, 7<<10|fullLeaf)
	copy(h.Mem[448:], ins(1, 1, 0, 0, 9))
	for pick, want := range map[int64]uint64{0: 7, 127: 7, 128: 9, 129: 9, 255: 9} {
		if got := checkStep(t, h, false, pick); got.Hart.Regs[1] != want {
			t.Errorf("pick %d: x1 is %d, want %d", pick, got.Hart.Regs[1], want)
		}
		if got := checkStep(t, h, true, pick); got.Hart.Regs[1] != 9 {
			t.Errorf("pick %d, plain: x1 is %d", pick, got.Hart.Regs[1])
		}
	}
	for pick := range int64(256) {
		h := pagedHart(impl.ModeS, ins(5, 3, 2, 0, 0)...)
		h.Regs[2] = 512
		setPage(&h, 8, "ok")
		h.Caches = fullCaches(13)
		got := checkStep(t, h, false, pick)
		if got.Cause != 0 || sameCaches(got.Hart.Caches, h.Caches) {
			t.Errorf("pick %d: %+v", pick, got)
		}
	}
}

// Every fence over full caches, by its registers.
func TestFenceInstruction(t *testing.T) {
	vas := []uint64{0, 513, 4100, 1 << 14, 512 | 1<<63, math.MaxUint64}
	asids := []uint64{0, 100, 65536 | 101, math.MaxUint64, 102}
	left := map[int]int{}
	for a := range 3 {
		for b := range 5 {
			if b == 1 || b == 2 {
				continue
			}
			for i, va := range vas {
				for j, asid := range asids {
					for mode := range int64(3) {
						h := smallHart(mode, ins(11, a, b, 7, 99)...)
						h.Regs[1], h.Regs[2], h.Regs[3], h.Regs[4] = va, vas[len(vas)-1-i], asid, asids[len(asids)-1-j]
						h.Caches = fullCaches(int64(i*5+j) % 16)
						got := checkStep(t, h, false, 127)
						f := impl.Fence{HasVa: a != 0, Va: h.Regs[a], HasAsid: b != 0, Asid: h.Regs[b] % 65536}
						want := h.Caches
						if mode != impl.ModeU {
							want = flushAll(h.Caches, f)
						}
						if !sameCaches(got.Hart.Caches, want) {
							t.Errorf("mode %d, fence %+v: %+v, want %+v", mode, f, got.Hart.Caches, want)
						}
						if plain := checkStep(t, h, true, 127); !sameCaches(plain.Hart.Caches, h.Caches) {
							t.Errorf("mode %d, fence %+v: a plain fence changed the caches", mode, f)
						}
						if !sameCaches(want, h.Caches) {
							left[a*8+b]++
						}
					}
				}
			}
		}
	}
	for _, way := range []int{0, 3, 8, 11} {
		if left[way] < 5 {
			t.Errorf("fences by registers %d and %d threw out something only %d times", way/8, way%8, left[way])
		}
	}
}

// A fence reaches the entry of its own fetch as well.
func TestFenceOfItsOwnFetch(t *testing.T) {
	h := pagedHart(impl.ModeS, ins(11, 0, 0, 0, 0)...)
	if got := checkStep(t, h, false, 0); !sameCaches(got.Hart.Caches, h.Caches) {
		t.Errorf("something is left: %+v", got.Hart.Caches)
	}
	h = pagedHart(impl.ModeS, ins(11, 1, 0, 0, 0)...)
	h.Regs[1] = 512
	if got := checkStep(t, h, false, 0); !got.Hart.Caches.I.Entries[0].Valid || got.Hart.Caches.P.Entries[0].Valid {
		t.Errorf("a fence of another page: %+v", got.Hart.Caches)
	}
}

// Satp, Status and Ret change the translations of the next step, not of their own.
func TestPagedContextOfTheNextStep(t *testing.T) {
	h := pagedHart(impl.ModeS, ins(9, 6, 0, 0, 0)...)
	h.Regs[6] = 0
	for i, got := range checkBoth(t, h, 0) {
		if got.Cause != 0 || got.Hart.Satp != 0 {
			t.Errorf("off: %+v", got)
		}
		if next := checkStep(t, got.Hart, i == 1, 0); next.Cause != impl.CauseFetchAccess || next.Tval != 1028 {
			t.Errorf("the next step: %+v", next)
		}
	}
	h = pagedHart(impl.ModeM)
	h.Pc, h.Epc, h.Emode = 448, 1024, impl.ModeU
	copy(h.Mem[448:], ins(12, 0, 0, 0, 0))
	for i, got := range checkBoth(t, h, 0) {
		if next := checkStep(t, got.Hart, i == 1, 0); got.Cause != 0 || next.Cause != impl.CauseFetchPage {
			t.Errorf("into mode U, from a page of mode S: %+v", next)
		}
	}
	for _, sum := range []int{0, 1} {
		h = pagedHart(impl.ModeS, slices.Concat(ins(1, 1, 0, 0, sum), ins(10, 1, 0, 0, 0), ins(5, 3, 2, 0, 0))...)
		h.Regs[2] = 512
		h.Sum = sum == 0
		put8(h.Mem, 256, 12<<10|fullLeaf|impl.BitU)
		for _, plain := range []bool{false, true} {
			step := impl.StepRes{Hart: h}
			for range 3 {
				step = checkStep(t, step.Hart, plain, 0)
			}
			if (step.Cause == 0) != (sum == 1) {
				t.Errorf("sum %d: %+v", sum, step)
			}
		}
	}
}

// The document's example of a changed leaf: the second load sees the old page until a fence or a pick takes the leaf out.
func TestPagedStaleLoad(t *testing.T) {
	load := ins(5, 3, 2, 0, 0)
	rows := []struct {
		name  string
		fence []byte
		pick  int64
		want  byte
	}{
		{"no fence", ins(1, 7, 0, 0, 0), 0, 10},
		{"a pick", ins(1, 7, 0, 0, 0), 128, 12},
		{"a pick of another place", ins(1, 7, 0, 0, 0), 129, 10},
		{"over everything", ins(11, 0, 0, 0, 0), 0, 12},
		{"over this page", ins(11, 2, 0, 0, 0), 0, 12},
		{"over this space", ins(11, 0, 5, 0, 0), 0, 12},
		{"another page", ins(11, 6, 0, 0, 0), 0, 10},
		{"another space", ins(11, 0, 6, 0, 0), 0, 10},
	}
	for _, r := range rows {
		for _, plain := range []bool{false, true} {
			h := pagedHart(impl.ModeS, slices.Concat(load, ins(6, 1, 4, 3, 0), r.fence, load)...)
			setPage(&h, 8, "ok")
			put8(h.Mem, 256, 10<<10|fullLeaf)
			put8(h.Mem, 256+8, 4<<10|fullLeaf)
			h.Mem[640], h.Mem[768] = 10, 12
			h.Regs[1], h.Regs[2], h.Regs[4], h.Regs[5], h.Regs[6] = 12<<10|fullLeaf, 512, 576, 9, 1024
			step := impl.StepRes{Hart: h}
			for _, pick := range []int64{0, 0, 0, r.pick} {
				step = checkStep(t, step.Hart, plain, pick)
			}
			want := r.want
			if plain {
				want = 12
			}
			if step.Cause != 0 || step.Hart.Regs[3] != uint64(want) {
				t.Errorf("%s, plain %v: %d, want %d", r.name, plain, step.Hart.Regs[3], want)
			}
		}
	}
}

// spoilHart writes over all memory of a hart's lists, past their lengths too, but for the lists that are not named.
func spoilHart(h impl.Hart, mem bool, regs bool, tlbs ...impl.Tlb) {
	if mem {
		fill(h.Mem[:cap(h.Mem)], 0xee)
	}
	if regs {
		for i := range h.Regs[:cap(h.Regs)] {
			h.Regs[:cap(h.Regs)][i] = 0xee
		}
	}
	for _, tlb := range tlbs {
		overwrite(tlb.Entries)
	}
}

// What was handed in may share memory; the answer shares none, with it or within itself.
func TestStepsShareNothing(t *testing.T) {
	codes := [][]byte{ins(1, 1, 0, 0, 7), ins(5, 3, 2, 3, 0), ins(6, 3, 2, 3, 0), ins(7, 3, 2, 3, 0), ins(11, 0, 0, 0, 0), ins(14, 0, 0, 0, 0), ins(0, 0, 0, 0, 0)}
	shared := roomy(make([]impl.Entry, 2))
	for _, code := range codes {
		for _, second := range []string{"ok", "outside"} {
			h := cloneHart(pagedHart(impl.ModeS, code...))
			h.Regs[2] = 508
			setPage(&h, 7, "ok")
			setPage(&h, 8, second)
			one := impl.Tlb{Sets: 1, Ways: 2, Entries: shared}
			h.Caches = impl.Caches{I: one, D: one, P: one}
			before := cloneHart(h)
			for _, plain := range []bool{false, true} {
				for _, pick := range []int64{0, 128} {
					checkUnshared(t, h, before, plain, pick)
				}
			}
		}
	}
}

func checkUnshared(t *testing.T, h impl.Hart, before impl.Hart, plain bool, pick int64) {
	t.Helper()
	want := wantStep(before, plain, pick).Hart
	for spoiled := range 3 {
		got := impl.StepHart(h, plain, pick).Hart
		lists := []*impl.Tlb{&got.Caches.I, &got.Caches.D, &got.Caches.P}
		spoilHart(got, true, true, *lists[spoiled])
		got.Mem, got.Regs = want.Mem, want.Regs
		*lists[spoiled] = []impl.Tlb{want.Caches.I, want.Caches.D, want.Caches.P}[spoiled]
		if !sameHart(got, want) {
			t.Fatalf("plain %v, pick %d: two lists of the answer share memory", plain, pick)
		}
		if !sameHart(h, before) || slices.ContainsFunc(h.Caches.I.Entries[:cap(h.Caches.I.Entries)], func(e impl.Entry) bool { return e.Valid }) {
			t.Fatalf("plain %v, pick %d: the answer shares memory with the argument", plain, pick)
		}
		rest, regs := h.Mem[len(h.Mem):cap(h.Mem)], h.Regs[8:cap(h.Regs)]
		if bytes.ContainsFunc(rest, func(r rune) bool { return r != 0 }) || slices.Max(regs) != 0 {
			t.Fatalf("plain %v, pick %d: the room behind a list was written into", plain, pick)
		}
	}
}
