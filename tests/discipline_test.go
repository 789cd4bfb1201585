package tests

import (
	"math"
	"slices"
	"testing"

	"loop.example/s0051/impl"
)

// The tests of promise 15: Disciplined tells the first undisciplined step, by rows with their answers and against the
// second telling.

const (
	ghostPage = 8704
	window    = 4096
)

// ghostHart has 32 pages: 0 the handler of traps, which comes back behind the instruction, 1 the root, 2 a table of level
// 1, 3 to 5 tables of level 0, 16 and 17 the code, which runs at its physical address. All of memory is to be seen from
// window on. The page at ghostPage has its entries at 80, 136 and 256 and is the physical page 12; the one behind it has
// its leaf at 264 (page 13), the one ahead of it at 248 (page 10), below another table of level 0. The code shares none of
// these entries. x2 is ghostPage; ghostChange stores x1, another leaf, to x4, which is where the leaf stands.
func ghostHart(mode int64, code ...byte) impl.Hart {
	h := impl.Hart{Mem: make([]byte, 2048), Regs: make([]uint64, 8), Pc: 1024, Mode: mode, Satp: satpOn | 9<<44 | 1}
	h.Emode = mode
	h.Caches = impl.Caches{I: emptyTlb(2, 2), D: emptyTlb(2, 2), P: emptyTlb(2, 4)}
	leaf := codeBits(mode)
	for addr, pte := range map[int]uint64{
		64: 2<<10 | impl.BitV, 72: leaf, 80: 2<<10 | impl.BitV,
		128: 3<<10 | impl.BitV, 136: 4<<10 | impl.BitV, 144: 5<<10 | impl.BitV,
		248: 10<<10 | leaf, 256: 12<<10 | leaf, 264: 13<<10 | leaf, 320: 16<<10 | leaf, 328: 17<<10 | leaf,
	} {
		put8(h.Mem, addr, pte)
	}
	copy(h.Mem, ins(impl.InsRet, 0, 0, 0, 1))
	copy(h.Mem[1024:], code)
	h.Regs[1], h.Regs[2], h.Regs[4] = 11<<10|leaf, ghostPage, window+256
	return h
}

func ghostLoad() []byte   { return ins(impl.InsLoad, 3, 2, 0, 0) }
func ghostChange() []byte { return ins(impl.InsStore, 1, 4, 3, 0) }
func ghostIdle() []byte   { return ins(impl.InsLi, 0, 0, 0, 0) }

// entryOf is the table entry at this address.
func entryOf(h *impl.Hart, addr uint64) uint64 {
	return wantRead(h.Mem, addr, 8).Val
}

// flips lets ghostChange store what stands in an entry, but for a bit that means nothing: the walk goes the same way.
func flips(h *impl.Hart, addr uint64) {
	h.Regs[1], h.Regs[4] = entryOf(h, addr)^1<<8, window+addr
}

// stores lets ghostChange store another entry there.
func stores(h *impl.Hart, addr uint64, pte uint64) {
	h.Regs[1], h.Regs[4] = pte, window+addr
}

const disciplined = -1

// wantAt runs n steps, of which the step at is the first undisciplined one.
func wantAt(t *testing.T, what string, h impl.Hart, n int, at int64) {
	t.Helper()
	b := textOf(h, make([]int64, n))
	want := impl.Discipline{Ok: at == disciplined, At: at}
	if want.Ok {
		want.At = int64(n)
		checkUnseen(t, b)
	}
	if got := checkDiscipline(t, b); got != want {
		t.Errorf("%s: %+v, want %+v", what, got, want)
	}
}

// ghostRow is a program in mode S, from ghostHart with what set names, for as many steps as are asked for.
type ghostRow struct {
	name string
	set  func(h *impl.Hart)
	code [][]byte
	n    int
	at   int64
}

func checkRows(t *testing.T, rows []ghostRow) {
	t.Helper()
	for _, r := range rows {
		h := ghostHart(impl.ModeS, slices.Concat(r.code...)...)
		if r.set != nil {
			r.set(&h)
		}
		wantAt(t, r.name, h, r.n, r.at)
	}
}

// The last paragraph of the document's examples.
func TestDisciplineOfAChangedLeaf(t *testing.T) {
	load, change := ghostLoad(), ghostChange()
	set := func(h *impl.Hart) { h.Regs[5], h.Regs[6], h.Regs[7] = 9, 10, ghostPage+64 }
	fenced := func(a int, b int) [][]byte { return [][]byte{load, change, ins(impl.InsFence, a, b, 0, 0), load} }
	checkRows(t, []ghostRow{
		{"no change", set, [][]byte{load, load, load}, 3, disciplined},
		{"no fence", set, [][]byte{load, change, load}, 3, 2},
		{"no load after it", set, [][]byte{load, change, ghostIdle()}, 3, disciplined},
		{"cut off ahead of the load", set, [][]byte{load, change, load}, 2, disciplined},
		{"no load before it", set, [][]byte{change, load, load}, 3, disciplined},
		{"another page after it", set, [][]byte{load, change, ins(impl.InsLoad, 3, 2, 0, 64)}, 3, disciplined},
		{"another place of the page", set, [][]byte{load, change, ins(impl.InsLoad, 3, 2, 0, 63)}, 3, 2},
		{"only the first counts", set, [][]byte{load, change, load, ins(impl.InsFence, 0, 0, 0, 0), load, load}, 6, 2},
		{"idle steps", set, [][]byte{ghostIdle(), load, ghostIdle(), change, ghostIdle(), ghostIdle(), load}, 7, 6},
		{"a store", set, [][]byte{load, change, ins(impl.InsStore, 3, 2, 0, 0)}, 3, 2},
		{"an amo", set, [][]byte{ins(impl.InsAmo, 3, 2, 0, 0), change, load}, 3, 2},
		{"the same leaf", func(h *impl.Hart) { stores(h, 256, entryOf(h, 256)) }, [][]byte{load, change, load}, 3, disciplined},
		{"changed and changed back", func(h *impl.Hart) { h.Regs[5] = entryOf(h, 256) }, [][]byte{load, change, ins(impl.InsStore, 5, 4, 3, 0), load}, 4, disciplined},
		{"one byte of it", set, [][]byte{load, ins(impl.InsStore, 1, 4, 0, 1), load}, 3, 2},
		{"over everything", set, fenced(0, 0), 4, disciplined},
		{"over this page", set, fenced(2, 0), 4, disciplined},
		{"over this space", set, fenced(0, 5), 4, disciplined},
		{"over this page and space", set, fenced(2, 5), 4, disciplined},
		{"over another page", set, fenced(7, 0), 4, 3},
		{"over another space", set, fenced(0, 6), 4, 3},
		{"over this page in another space", set, fenced(2, 6), 4, 3},
		{"over another page of this space", set, fenced(7, 5), 4, 3},
		{"a fence ahead of the change", set, [][]byte{load, ins(impl.InsFence, 0, 0, 0, 0), change, load}, 4, disciplined},
		{"and a load behind the fence", set, [][]byte{load, ins(impl.InsFence, 0, 0, 0, 0), load, change, load}, 5, 4},
		{"a store through the leaf that it changes", func(h *impl.Hart) {
			put8(h.Mem, 256, 4<<10|fullLeaf)
			h.Regs[4] = ghostPage
		}, [][]byte{change, load}, 2, 1},
	})
}

func TestDisciplineCountsSteps(t *testing.T) {
	for _, b := range [][]byte{nil, {}, {1, 2, 3}, headText(0, 0), headText(0, 9)} {
		if got := checkDiscipline(t, b); got != (impl.Discipline{Ok: true, At: 0}) {
			t.Errorf("no step: %+v", got)
		}
	}
	h := ghostHart(impl.ModeS, slices.Concat(ghostLoad(), ghostChange(), ghostLoad())...)
	for n, at := range []int64{disciplined, disciplined, disciplined, 2, 2, 2} {
		wantAt(t, "so many steps", h, n, at)
	}
	loop := slices.Concat(ghostLoad(), ghostChange(), ins(impl.InsAddi, 6, 6, 0, -1), ins(impl.InsBne, 6, 0, 0, -1), ghostIdle(), ghostLoad())
	h = ghostHart(impl.ModeS, loop...)
	h.Regs[6] = 9998
	wantAt(t, "all steps but the last", h, 19999, disciplined)
	wantAt(t, "the last step", h, 20000, 19999)
	h.Regs[6] = 9999
	for _, n := range []int{20000, 20001, 65535} {
		b := textOf(h, nil)
		b[5], b[6] = byte(n), byte(n/256)
		if got := checkDiscipline(t, b); got != (impl.Discipline{Ok: true, At: 20000}) {
			t.Errorf("%d steps: %+v", n, got)
		}
	}
}

// Each part is looked at and recorded on its own. The access begins 4 bytes ahead of ghostPage.
func TestDisciplineOfTwoParts(t *testing.T) {
	for op := impl.InsLoad; op <= impl.InsAmo; op++ {
		both, change := ins(op, 3, 2, 3, -4), ghostChange()
		singles := [][]byte{ins(impl.InsLoad, 3, 2, 0, -4), ghostLoad()}
		for i, leaf := range []uint64{248, 256} {
			set := func(h *impl.Hart) { flips(h, leaf) }
			bad := func(pte uint64) func(h *impl.Hart) {
				return func(h *impl.Hart) { set(h); put8(h.Mem, 248, pte) }
			}
			single, other := singles[i], singles[1-i]
			checkRows(t, []ghostRow{
				{"recorded by the part", set, [][]byte{both, change, single}, 3, 2},
				{"looked at by the part", set, [][]byte{single, change, both}, 3, 2},
				{"by both", set, [][]byte{both, change, both}, 3, 2},
				{"only the other part was recorded", set, [][]byte{other, change, both}, 3, disciplined},
				{"only the other part is looked at", set, [][]byte{both, change, other}, 3, disciplined},
				{"the first lies outside, both are recorded", bad(99<<10 | fullLeaf), [][]byte{both, change, single}, 4, 3},
			})
			if i == 0 {
				continue
			}
			for _, pte := range []uint64{0, fullLeaf &^ impl.BitA, 10<<10 | impl.BitV, 1<<60 | fullLeaf} {
				checkRows(t, []ghostRow{
					{"the first has a cause, the second is not looked at", bad(pte), [][]byte{single, change, both}, 4, disciplined},
					{"the first has a cause, the second is not recorded", bad(pte), [][]byte{both, change, single}, 4, disciplined},
				})
			}
		}
		second := func(leaf uint64, flip uint64) func(h *impl.Hart) {
			return func(h *impl.Hart) { put8(h.Mem, 256, leaf); flips(h, flip) }
		}
		checkRows(t, []ghostRow{
			{"the second has a cause, the first is recorded", second(0, 248), [][]byte{both, change, singles[0]}, 4, 3},
			{"the second has a cause, its leaf is not recorded", second(fullLeaf&^impl.BitA, 256), [][]byte{both, change, singles[1]}, 4, disciplined},
			{"the second has a cause, its pointer is recorded", second(0, 136), [][]byte{both, change, singles[1]}, 4, 3},
			{"the second lies outside, both are recorded", second(99<<10|fullLeaf, 248), [][]byte{both, change, singles[0]}, 4, 3},
			{"the second lies outside, it is recorded", second(99<<10|fullLeaf, 256), [][]byte{both, change, singles[1]}, 4, 3},
		})
	}
}

// The second part of an access may begin at 0, or where addresses are not canonical any more.
func TestDisciplineOfPartsAtTheEdges(t *testing.T) {
	top := uint64(math.MaxUint64 - 3)
	both, change := ins(impl.InsLoad, 3, 2, 3, 0), ghostChange()
	set := func(va uint64, leaf uint64) func(h *impl.Hart) {
		return func(h *impl.Hart) {
			for _, root := range []int{88, 96, 120} {
				put8(h.Mem, root, 2<<10|impl.BitV)
			}
			put8(h.Mem, 184, 3<<10|impl.BitV)
			put8(h.Mem, 192, 11<<10|fullLeaf)
			h.Regs[2], h.Regs[5] = va, 1<<64-1<<14
			flips(h, leaf)
		}
	}
	low, sign := ins(impl.InsLoad, 3, 0, 0, 0), ins(impl.InsLoad, 3, 5, 0, 0)
	checkRows(t, []ghostRow{
		{"over 2^64, recorded", set(top, 192), [][]byte{both, change, low}, 3, 2},
		{"over 2^64, looked at", set(top, 192), [][]byte{low, change, both}, 3, 2},
		{"over 2^64, the first", set(top, 248), [][]byte{both, change, ins(impl.InsLoad, 3, 2, 0, 0)}, 3, 2},
		{"the first not canonical any more is not looked at", set(1<<14-4, 192), [][]byte{sign, change, both}, 3, disciplined},
		{"and not recorded", set(1<<14-4, 192), [][]byte{both, change, sign}, 4, disciplined},
		{"the last canonical is", set(1<<14-4, 248), [][]byte{both, change, ins(impl.InsLoad, 3, 2, 0, 0)}, 4, 3},
	})
}

// A fetch is a translation like another: it looks and records, and what it records is looked at by loads.
func TestDisciplineOfFetches(t *testing.T) {
	change, idle := ghostChange(), ghostIdle()
	flip := func(addr uint64) func(h *impl.Hart) {
		return func(h *impl.Hart) { flips(h, addr) }
	}
	jump := func(at int) []byte { return ins(impl.InsBne, 2, 0, 0, 16-at) }
	second := func(code ...[]byte) func(h *impl.Hart) {
		return func(h *impl.Hart) {
			flips(h, 328)
			copy(h.Mem[1088:], slices.Concat(code...))
			h.Regs[5] = 1024
		}
	}
	back := func(pc uint64) func(h *impl.Hart) {
		return func(h *impl.Hart) {
			put8(h.Mem, 256, 16<<10|fullLeaf)
			h.Regs[1], h.Regs[4], h.Regs[5] = entryOf(h, 256)^1<<8, 256, pc
			copy(h.Mem, slices.Concat(change, ins(impl.InsSetRet, 5, 0, 1, 0), ins(impl.InsRet, 0, 0, 0, 0)))
		}
	}
	call := ins(impl.InsCall, 0, 0, 0, 0)
	checkRows(t, []ghostRow{
		{"the page of the code", flip(320), [][]byte{change, idle}, 2, 1},
		{"the table of the code", flip(144), [][]byte{idle, change, idle}, 3, 2},
		{"the root entry of the code", flip(64), [][]byte{idle, change, idle}, 3, 2},
		{"a fence that is fetched too late", flip(320), [][]byte{change, ins(impl.InsFence, 0, 0, 0, 0), idle}, 3, 1},
		{"another page of code, not fetched before", flip(328), [][]byte{change, jump(1)}, 3, disciplined},
		{"loaded, then fetched", func(h *impl.Hart) { flips(h, 328); h.Regs[5] = 1088 }, [][]byte{ins(impl.InsLoad, 3, 5, 0, 0), change, jump(2)}, 4, 3},
		{"fetched, then loaded", func(h *impl.Hart) {
			second(change, ins(impl.InsLoad, 3, 5, 0, 0))(h)
			flips(h, 320)
		}, [][]byte{jump(0)}, 3, 2},
		{"fetched and loaded from itself", second(change, idle), [][]byte{jump(0)}, 3, 2},
		{"fetched where it may not be", func(h *impl.Hart) { back(ghostPage)(h); put8(h.Mem, 256, 12<<10|fullLeaf&^impl.BitX) }, [][]byte{ghostLoad(), call}, 6, 5},
		{"fetched behind the change", back(ghostPage + 4), [][]byte{ghostLoad(), call}, 6, 5},
		{"a pc that is no multiple of 4 is not fetched", back(ghostPage + 2), [][]byte{ghostLoad(), call}, 6, disciplined},
		{"a pc that is not canonical", back(ghostPage | 1<<15), [][]byte{ghostLoad(), call}, 6, disciplined},
		{"a root that is not there", func(h *impl.Hart) { h.Satp = satpOn | 99 }, [][]byte{idle}, 3, disciplined},
	})
}

// Where nothing is translated, nothing is looked at and nothing becomes a record.
func TestDisciplineOfNoTranslation(t *testing.T) {
	load, change, other := ghostLoad(), ghostChange(), ins(impl.InsLoad, 3, 5, 0, 0)
	for i := 14; i < 64; i++ {
		va := uint64(ghostPage) ^ 1<<i
		look := func(h *impl.Hart) { h.Regs[5] = va }
		record := func(addr uint64) func(h *impl.Hart) {
			return func(h *impl.Hart) { h.Regs[5] = va; flips(h, addr) }
		}
		checkRows(t, []ghostRow{
			{"not canonical, nothing is looked at", look, [][]byte{load, change, other}, 3, disciplined},
			{"not canonical, no pointer is recorded", record(136), [][]byte{other, change, load}, 4, disciplined},
			{"not canonical, no leaf is recorded", record(256), [][]byte{other, change, load}, 4, disciplined},
		})
	}
	call, off, on := ins(impl.InsCall, 0, 0, 0, 0), ins(impl.InsSatp, 5, 0, 0, 0), ins(impl.InsSatp, 6, 0, 0, 0)
	low := func(addr uint64) func(h *impl.Hart) {
		return func(h *impl.Hart) {
			flips(h, addr)
			h.Regs[2], h.Regs[5], h.Regs[6] = 512, 9<<44|1, h.Satp
			copy(h.Mem, slices.Concat(load, ins(impl.InsRet, 0, 0, 0, 1)))
		}
	}
	checkRows(t, []ghostRow{
		{"mode M looks at nothing", low(256), [][]byte{load, change, call}, 4, disciplined},
		{"and takes nothing out", low(256), [][]byte{load, change, call, load}, 6, 5},
		{"mode M records nothing", low(256), [][]byte{call, change, load}, 5, disciplined},
		{"nor a pointer", low(136), [][]byte{call, change, load}, 5, disciplined},
		{"scheme 0 looks at nothing", low(256), [][]byte{load, change, off, load}, 4, disciplined},
		{"and takes nothing out", low(256), [][]byte{load, change, off, load, on, load}, 6, 5},
		{"scheme 0 records nothing", low(256), [][]byte{off, load, on, change, load}, 5, disciplined},
		{"nor a pointer", low(136), [][]byte{off, load, on, change, load}, 5, disciplined},
	})
}

// A translation that ends in a cause still looks, and still records the pointers that it read.
func TestDisciplineOfCauses(t *testing.T) {
	load, change := ghostLoad(), ghostChange()
	becomes := func(addr uint64, pte uint64) ghostRow {
		return ghostRow{"a look that ends in a cause", func(h *impl.Hart) { stores(h, addr, pte) }, [][]byte{load, change, load}, 3, 2}
	}
	first := func(name string, addr int, pte uint64, flip uint64, at int64) ghostRow {
		return ghostRow{name, func(h *impl.Hart) {
			flips(h, flip)
			put8(h.Mem, addr, pte)
			if flip == uint64(addr) {
				h.Regs[1] = 12<<10 | fullLeaf
			}
		}, [][]byte{load, change, load}, 4, at}
	}
	rows := []ghostRow{}
	for _, pte := range []uint64{0, fullLeaf &^ impl.BitA, 12<<10 | impl.BitV, 1<<54 | fullLeaf, 12<<10 | fullLeaf&^impl.BitR} {
		rows = append(rows, becomes(256, pte),
			first("no good leaf, its pointer", 256, pte, 136, 3),
			first("no good leaf, the upper pointer", 256, pte, 80, 3),
			first("no good leaf is no record", 256, pte, 256, disciplined))
	}
	for _, pte := range []uint64{0, 9<<10 | fullLeaf, 99<<10 | impl.BitV, 4<<10 | impl.BitV | impl.BitA, 1<<60 | impl.BitV} {
		rows = append(rows, becomes(136, pte), becomes(80, pte), first("no good pointer, the upper one", 136, pte, 80, 3))
	}
	rows = append(rows,
		first("a table that is not there", 136, 99<<10|impl.BitV, 80, 3),
		first("a page that is not there", 256, 99<<10|fullLeaf, 256, 3),
		ghostRow{"a pointer to a table that is not there", func(h *impl.Hart) {
			stores(h, 136, 4<<10|impl.BitV)
			put8(h.Mem, 136, 99<<10|impl.BitV)
		}, [][]byte{load, change, load}, 4, 3},
		ghostRow{"a bad pointer is no record", func(h *impl.Hart) {
			stores(h, 136, 4<<10|impl.BitV)
			put8(h.Mem, 136, 4<<10)
		}, [][]byte{load, change, load}, 4, disciplined},
		ghostRow{"a bad root entry is no record", func(h *impl.Hart) {
			stores(h, 80, 2<<10|impl.BitV)
			put8(h.Mem, 80, 2<<10)
		}, [][]byte{load, change, load}, 4, disciplined})
	checkRows(t, rows)
}

// grantRow lets a page with such a leaf be touched by one kind of access, then changes the leaf in mode M, and touches it
// again. The first touch calls or traps, so that the handler, which changes the leaf, comes at one of the first two steps.
func grantRow(kind int64, mode int64, flags uint64, pte uint64) impl.Hart {
	touch := ins([]int{0, impl.InsLoad, impl.InsStore}[kind], 3, 2, 0, 0)
	call := ins(impl.InsCall, 0, 0, 0, 0)
	if kind == impl.KindFetch {
		touch = ins(impl.InsBne, 2, 0, 0, -128)
	}
	h := ghostHart(mode, slices.Concat(touch, call, touch)...)
	h.Sum, h.Mxr = bit(flags, 0), bit(flags, 1)
	h.Regs[2], h.Regs[4], h.Regs[1] = 512, 256, pte^1<<8
	put8(h.Mem, 256, pte)
	copy(h.Mem, slices.Concat(ghostChange(), ins(impl.InsRet, 0, 0, 0, 1)))
	copy(h.Mem[768:], slices.Concat(call, call))
	return h
}

// A leaf becomes a record only if it is granted for the kind under the present Mode, Sum and Mxr.
func TestDisciplineOfGrants(t *testing.T) {
	granted := map[bool]int{}
	for low := range uint64(256) {
		pte := 12<<10 | low
		if wantKind(pte, 0) != impl.PteLeaf {
			continue
		}
		for flags := range uint64(4) {
			for mode := range int64(2) {
				for kind := range int64(3) {
					is := wantGranted(pte, kind, mode, bit(flags, 0), bit(flags, 1))
					granted[is]++
					at := int64(disciplined)
					if is {
						at = 4
					}
					wantAt(t, "a leaf by its bits", grantRow(kind, mode, flags, pte), 5, at)
				}
			}
		}
	}
	if granted[true] < 300 || granted[false] < 300 {
		t.Errorf("leaves granted and not: %v", granted)
	}
}

// The status counts as it is when the page is touched.
func TestDisciplineOfStatus(t *testing.T) {
	load, change, status := ghostLoad(), ghostChange(), ins(impl.InsStatus, 5, 0, 0, 0)
	set := func(bits uint64, sum bool, mxr bool, status uint64) func(h *impl.Hart) {
		return func(h *impl.Hart) {
			put8(h.Mem, 256, 12<<10|bits)
			flips(h, 256)
			h.Sum, h.Mxr, h.Regs[5] = sum, mxr, status
		}
	}
	user, code := uint64(fullLeaf|impl.BitU), uint64(impl.BitV|impl.BitX|impl.BitA)
	checkRows(t, []ghostRow{
		{"sum from before", set(user, true, false, 0), [][]byte{load, status, change, load}, 4, 3},
		{"no sum", set(user, false, true, 1), [][]byte{load, status, change, load}, 5, disciplined},
		{"sum by now", set(user, false, false, 1), [][]byte{status, load, change, load}, 4, 3},
		{"no sum by now", set(user, true, true, 2), [][]byte{status, load, change, load}, 5, disciplined},
		{"mxr from before", set(code, false, true, 0), [][]byte{load, status, change, load}, 4, 3},
		{"no mxr", set(code, true, false, 2), [][]byte{load, status, change, load}, 5, disciplined},
		{"mxr by now", set(code, false, false, 2), [][]byte{status, load, change, load}, 4, 3},
		{"a fetch grants no load", set(code, false, false, 1), [][]byte{status, load, change, load}, 5, disciplined},
	})
}

// Records of a level that the walk does not reach any more, of another address, and of another level. The fence over the
// next page takes out the pointers above the page, but not its leaf; that over the first page of the region takes out the
// root entry alone.
func TestDisciplineOfLevels(t *testing.T) {
	load, change := ghostLoad(), ghostChange()
	next, region, page := ins(impl.InsFence, 5, 0, 0, 0), ins(impl.InsFence, 6, 0, 0, 0), ins(impl.InsFence, 2, 0, 0, 0)
	set := func(addr uint64, pte uint64) func(h *impl.Hart) {
		return func(h *impl.Hart) {
			stores(h, addr, pte)
			h.Regs[5], h.Regs[6] = ghostPage+64, 8192
			put8(h.Mem, 512, entryOf(h, 256))
			copy(h.Mem[576:640], h.Mem[128:192])
		}
	}
	rows := []ghostRow{}
	for what, pte := range map[string]uint64{
		"a leaf above it": 8<<10 | fullLeaf, "nothing": 0, "no table": 99<<10 | impl.BitV,
		"the same leaf in another table": 8<<10 | impl.BitV,
	} {
		rows = append(rows,
			ghostRow{"level 0, now " + what, set(136, pte), [][]byte{load, change, next, load}, 4, 3},
			ghostRow{"level 0, fenced, now " + what, set(136, pte), [][]byte{load, change, page, load}, 4, disciplined})
	}
	for what, pte := range map[string]uint64{
		"a leaf above it": fullLeaf, "nothing": 0, "no table": 99<<10 | impl.BitV,
		"the same pointer in another table": 9<<10 | impl.BitV,
	} {
		rows = append(rows,
			ghostRow{"levels 0 and 1, now " + what, set(80, pte), [][]byte{load, change, region, load}, 4, 3},
			ghostRow{"levels 0 and 1, fenced, now " + what, set(80, pte), [][]byte{load, change, page, load}, 4, disciplined})
	}
	for _, pte := range []uint64{fullLeaf, 0, 99<<10 | impl.BitV, 9<<10 | impl.BitV} {
		set := set(80, pte)
		rows = append(rows, ghostRow{"level 1 alone", func(h *impl.Hart) { set(h); put8(h.Mem, 256, 0) }, [][]byte{load, change, region, load}, 5, 4})
	}
	checkRows(t, rows)
	great := func(addr int, pte uint64) func(h *impl.Hart) {
		return func(h *impl.Hart) { put8(h.Mem, addr, pte); flips(h, uint64(addr)) }
	}
	checkRows(t, []ghostRow{
		{"a leaf of level 1, by another of its pages", great(136, 8<<10|fullLeaf), [][]byte{load, change, ins(impl.InsLoad, 3, 2, 0, 127)}, 3, 2},
		{"a leaf of level 1, beside it", great(136, 8<<10|fullLeaf), [][]byte{load, change, ins(impl.InsLoad, 3, 2, 0, -1)}, 3, disciplined},
		{"a leaf of level 2, by another of its pages", great(80, fullLeaf), [][]byte{load, change, ins(impl.InsLoad, 3, 2, 0, -1)}, 3, 2},
		{"a pointer, by another of its pages", great(136, 4<<10|impl.BitV), [][]byte{load, change, ins(impl.InsLoad, 3, 2, 0, 64)}, 3, 2},
		{"a leaf of level 1 becomes a pointer", func(h *impl.Hart) { stores(h, 136, entryOf(h, 136)); put8(h.Mem, 136, 8<<10|fullLeaf) }, [][]byte{load, change, load}, 3, 2},
	})
}

// A record has the address and value of an entry of the walk, but that entry is of another level: the table at page 14 is
// of level 1 below the first root and a root later on. Its entry at 912 is global, so that the record fits there too.
func TestDisciplineOfAnotherLevel(t *testing.T) {
	for _, sameLevel := range []bool{false, true} {
		h := ghostHart(impl.ModeS, slices.Concat(ghostLoad(), ins(impl.InsSatp, 5, 0, 0, 0), ghostLoad())...)
		h.Regs[2], h.Regs[5] = 9216, satpOn|10<<44|14
		put8(h.Mem, 80, 14<<10|impl.BitV)
		put8(h.Mem, 896, 2<<10|impl.BitV)
		put8(h.Mem, 912, 15<<10|impl.BitV|impl.BitG)
		put8(h.Mem, 976, 8<<10|fullLeaf)
		at := int64(3)
		if sameLevel {
			// Now the entry at 912 is read at level 1 as well, by way of itself.
			put8(h.Mem, 912, 14<<10|impl.BitV|impl.BitG)
			at = disciplined
		}
		wantAt(t, "the entry is of another level", h, 4, at)
	}
}

// Address spaces: the second one has the same root, or a root with the same entries elsewhere.
func TestDisciplineOfSpaces(t *testing.T) {
	load, change := ghostLoad(), ghostChange()
	there, back := ins(impl.InsSatp, 5, 0, 0, 0), ins(impl.InsSatp, 6, 0, 0, 0)
	set := func(change uint64, global ...int) func(h *impl.Hart) {
		return func(h *impl.Hart) {
			for _, addr := range global {
				put8(h.Mem, addr, entryOf(h, uint64(addr))|impl.BitG)
			}
			flips(h, change)
			h.Regs[5], h.Regs[6] = satpOn|10<<44|1, h.Satp
		}
	}
	spaces := func(first uint64, second uint64) func(h *impl.Hart) {
		return func(h *impl.Hart) {
			flips(h, 256)
			h.Satp = satpOn | first<<44 | 1
			h.Regs[5], h.Regs[6] = satpOn|second<<44|1, h.Satp
		}
	}
	checkRows(t, []ghostRow{
		{"a leaf of another space", set(256), [][]byte{load, change, there, load}, 4, disciplined},
		{"and back", set(256), [][]byte{load, change, there, load, back, load}, 6, 5},
		{"changed in the other space", set(256), [][]byte{load, there, change, back, load}, 5, 4},
		{"a global leaf", set(256, 256), [][]byte{load, change, there, load}, 4, 3},
		{"a global leaf, recorded there", set(256, 256), [][]byte{there, load, change, back, load}, 5, 4},
		{"a global pointer", set(136, 136), [][]byte{load, change, there, load}, 4, 3},
		{"a pointer that is not", set(136, 80, 256), [][]byte{load, change, there, load}, 4, disciplined},
		{"a global root entry", set(80, 80), [][]byte{load, change, there, load}, 4, 3},
		{"a root entry that is not", set(80, 136, 256), [][]byte{load, change, there, load}, 4, disciplined},
		{"a leaf below global pointers", set(256, 80, 136), [][]byte{load, change, there, load}, 4, disciplined},
		{"a leaf that becomes global elsewhere", func(h *impl.Hart) {
			set(256)(h)
			h.Regs[1] |= impl.BitG
		}, [][]byte{load, change, there, load, back, load}, 6, 5},
		{"a global leaf that is fenced and comes back as another", func(h *impl.Hart) {
			set(256, 256)(h)
			h.Regs[1] &^= impl.BitG
		}, [][]byte{load, change, ins(impl.InsFence, 2, 0, 0, 0), load, there, load, back, load}, 8, disciplined},
		{"spaces 0 and 65535", spaces(0, 65535), [][]byte{load, change, there, load, back, load}, 6, 5},
		{"spaces 65535 and 32767", spaces(65535, 32767), [][]byte{load, change, there, load}, 4, disciplined},
		{"spaces 1 and 0", spaces(1, 0), [][]byte{load, change, there, load}, 4, disciplined},
	})
	root := func(asid uint64, global ...int) func(h *impl.Hart) {
		return func(h *impl.Hart) {
			set(256, global...)(h)
			copy(h.Mem[896:960], h.Mem[64:128])
			h.Regs[5] = satpOn | asid<<44 | 14
		}
	}
	checkRows(t, []ghostRow{
		{"another root of the same space", root(9), [][]byte{there, ghostIdle()}, 2, 1},
		{"another root of the same space, fenced too late", root(9), [][]byte{there, ins(impl.InsFence, 0, 0, 0, 0)}, 2, 1},
		{"another root of another space", root(10), [][]byte{load, there, load}, 3, disciplined},
		{"another root, a global root entry", root(10, 80), [][]byte{load, there, load}, 3, 2},
		{"another root, a global root entry of the code", root(10, 64), [][]byte{there, load}, 2, 1},
		{"another root, global below it", root(10, 136, 256), [][]byte{load, there, load}, 3, disciplined},
	})
}

// Every kind of fence over a record of every level, global or not: the record is left or not, as 4.2 says.
func TestDisciplineOfFences(t *testing.T) {
	vas := []uint64{ghostPage, ghostPage + 63, ghostPage + 64, ghostPage - 1, 8192, 12287, 0, 512, ghostPage | 1<<14, ghostPage | 1<<15, ghostPage | 1<<63}
	asids := []uint64{9, 10, 0, 9 | 1<<16, 9 | 1<<63, math.MaxUint64}
	left := map[bool]int{}
	for fence := range 4 {
		for level, addr := range []uint64{256, 136, 80} {
			for global := range uint64(8) {
				for _, va := range vas {
					for _, asid := range asids {
						h := ghostHart(impl.ModeS, slices.Concat(ghostLoad(), ghostChange(), ins(impl.InsFence, fence%2*5, fence/2*6, 7, 99), ghostLoad())...)
						for i, entry := range []int{256, 136, 80} {
							put8(h.Mem, entry, entryOf(&h, uint64(entry))|global>>i&1*impl.BitG)
						}
						flips(&h, addr)
						h.Regs[5], h.Regs[6] = va, asid
						f := impl.Fence{HasVa: fence%2 == 1, Va: va, HasAsid: fence/2 == 1, Asid: asid % 65536}
						record := impl.Entry{Valid: true, Level: int64(level), Tag: wantTag(ghostPage, int64(level)), Asid: 9, Global: bit(global, level)}
						at := int64(3)
						if wantCovers(f, record) {
							at = disciplined
						}
						left[at == 3]++
						wantAt(t, "a fence", h, 4, at)
					}
				}
			}
		}
	}
	if left[true] < 300 || left[false] < 300 {
		t.Errorf("records left and taken out: %v", left)
	}
}

// Nothing but a fence that is executed takes records out. In mode U the leaf is changed by the handler, in mode M.
func TestDisciplineKeepsRecords(t *testing.T) {
	load, change := ghostLoad(), ghostChange()
	set := func(h *impl.Hart) { h.Regs[5], h.Regs[6] = satpOn|10<<44|1, h.Satp }
	checkRows(t, []ghostRow{
		{"a call", set, [][]byte{load, change, ins(impl.InsCall, 0, 0, 0, 0), load}, 5, 4},
		{"an illegal instruction", set, [][]byte{load, change, ins(0, 0, 0, 0, 0), load}, 5, 4},
		{"an access that traps", set, [][]byte{load, change, ins(impl.InsLoad, 3, 0, 0, 0), load}, 5, 4},
		{"satp as it was", set, [][]byte{load, change, ins(impl.InsSatp, 6, 0, 0, 0), load}, 4, 3},
		{"satp there and back", set, [][]byte{load, change, ins(impl.InsSatp, 5, 0, 0, 0), ins(impl.InsSatp, 6, 0, 0, 0), load}, 5, 4},
		{"status", set, [][]byte{load, change, ins(impl.InsStatus, 5, 0, 0, 0), load}, 4, 3},
		{"a jump", set, [][]byte{load, change, ins(impl.InsBne, 2, 0, 0, 1), load}, 4, 3},
		{"a fence in mode M", func(h *impl.Hart) {
			copy(h.Mem, slices.Concat(ins(impl.InsFence, 0, 0, 0, 0), ins(impl.InsRet, 0, 0, 0, 1)))
		}, [][]byte{load, change, ins(impl.InsCall, 0, 0, 0, 0), load}, 6, disciplined},
	})
	handler := slices.Concat(change, ins(impl.InsRet, 0, 0, 0, 1))
	for a := range 8 {
		h := ghostHart(impl.ModeU, slices.Concat(load, ins(impl.InsFence, a, 0, 0, 0), load)...)
		h.Regs[4] = 256
		copy(h.Mem, handler)
		wantAt(t, "an illegal fence", h, 5, 4)
	}
	h := ghostHart(impl.ModeU, slices.Concat(load, ins(impl.InsCall, 0, 0, 0, 0), load)...)
	h.Regs[4] = 256
	copy(h.Mem, slices.Concat(ins(impl.InsFence, 2, 0, 0, 0), handler))
	wantAt(t, "a fence for mode U", h, 6, disciplined)
}

// crowdedProgram loads, changes and fences a few pages of ghostHart over and over, in two address spaces and, sometimes,
// below two roots. x1 is what an amo adds to an entry, x3 what was loaded last or an asid.
func crowdedProgram(d *dice) []byte {
	code := []byte{}
	for range 31 {
		code = append(code, crowdedIns(d)...)
	}
	h := ghostHart(impl.ModeS, append(code, ins(impl.InsBne, 2, 0, 0, -31)...)...)
	for _, addr := range []int{64, 80, 128, 136, 144, 248, 256, 264, 320} {
		put8(h.Mem, addr, entryOf(&h, uint64(addr))|d.below(4)/3*impl.BitG)
	}
	copy(h.Mem[896:960], h.Mem[64:128])
	h.Regs[1], h.Regs[4], h.Regs[5] = []uint64{256, 1024, 1}[d.below(3)], window+256, window+80
	h.Satp = satpOn | 1<<44 | 1
	h.Regs[6], h.Regs[7] = h.Satp, satpOn|2<<44|1+13*d.below(2)
	return textOf(h, make([]int64, 60))
}

func crowdedIns(d *dice) []byte {
	switch d.below(16) {
	case 0, 1, 2, 3, 4:
		return ins(impl.InsLoad+int(d.below(2)), 3, 2, int(d.below(4)), []int{0, 64, -64, -4, 60}[d.below(5)])
	case 5:
		return ins(impl.InsAmo, 3, 4, 1, []int{0, 8, -8}[d.below(3)])
	case 6:
		return ins(impl.InsAmo, 3, 4, 1, []int{-120, -128}[d.below(2)])
	case 7:
		return ins(impl.InsAmo, 3, 5, 1, 0)
	case 8, 9, 10:
		return slices.Concat(ins(impl.InsLi, 3, 0, 0, 1+int(d.below(2))), ins(impl.InsFence, []int{0, 2, 2}[d.below(3)], []int{0, 0, 3}[d.below(3)], 0, 0))
	case 11, 12:
		return ins(impl.InsSatp, 6+int(d.below(2)), 0, 0, 0)
	case 13:
		return ins(impl.InsAddi, 2, 2, 0, []int{64, -64}[d.below(2)])
	}
	return ins(impl.InsLoad, 3, 4, 0, 0)
}

// tornText is a program with a few bytes changed, somewhere.
func tornText(d *dice) []byte {
	b := crowdedProgram(d)
	if d.below(2) == 0 {
		b = tidyProgram(d, 60)
	}
	for range 1 + d.below(4) {
		if at := d.below(uint64(len(b))); at != 6 {
			b[at] = byte(d.next() >> 20)
		}
	}
	return b
}

func TestDisciplineGenerated(t *testing.T) {
	d := dice(1515)
	for _, r := range []struct {
		name          string
		make          func() []byte
		ok, not, late int
	}{
		{"crowded", func() []byte { return crowdedProgram(&d) }, 500, 1000, 500},
		{"tidy", func() []byte { return tidyProgram(&d, int(d.below(120))) }, 1000, 300, 200},
		{"some", func() []byte { return someProgram(&d, int(d.below(120))) }, 1000, 200, 60},
		{"torn", func() []byte { return tornText(&d) }, 500, 500, 200},
		{"any text", func() []byte { return someText(&d) }, 1000, 0, 0},
	} {
		ok, not, late := 0, 0, 0
		for range 2000 {
			got := checkDiscipline(t, r.make())
			if got.Ok {
				ok++
				continue
			}
			not++
			if got.At >= 10 {
				late++
			}
		}
		if ok < r.ok || not < r.not || late < r.late {
			t.Errorf("%s: %d disciplined scripts, %d others, %d of them late", r.name, ok, not, late)
		}
	}
}
