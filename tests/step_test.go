package tests

import (
	"bytes"
	"math"
	"slices"
	"testing"

	"loop.example/s0051/impl"
)

// The tests of promise 9, part two: each instruction, by rows with their answers and against the second telling.

// ins is one instruction; a and b lie together in its second byte.
func ins(op int, a int, b int, c int, imm int) []byte {
	return []byte{byte(op), byte(a + 8*b), byte(c), byte(imm)}
}

// wantChange steps h with caches and plain: nothing may be other than before but the pc, 4 further, and what change names.
func wantChange(t *testing.T, what string, h impl.Hart, change func(h *impl.Hart)) {
	t.Helper()
	want := cloneHart(h)
	want.Pc += 4
	change(&want)
	for i, got := range checkBoth(t, h, 0) {
		if !got.Ok || got.Cause != 0 || got.Tval != 0 || !sameHart(got.Hart, want) {
			t.Errorf("%s, plain %v: %+v, want %+v", what, i == 1, got, want)
		}
	}
}

// wantTrap steps h: nothing may be other than before but what a trap names.
func wantTrap(t *testing.T, what string, h impl.Hart, cause int64, tval uint64) {
	t.Helper()
	want := cloneHart(h)
	want.Epc, want.Emode, want.Cause, want.Tval, want.Mode, want.Pc = h.Pc, h.Mode, cause, tval, impl.ModeM, h.Tvec
	for i, got := range checkBoth(t, h, 0) {
		want.Caches = got.Hart.Caches
		if !got.Ok || got.Cause != cause || got.Tval != tval || !sameHart(got.Hart, want) {
			t.Errorf("%s, plain %v: %+v, want %+v", what, i == 1, got, want)
		}
	}
}

func TestStepArithmetic(t *testing.T) {
	one, two, three := uint64(0x1111111111111111), uint64(0x2222222222222222), uint64(0x3333333333333333)
	rows := []struct {
		name string
		code []byte
		reg  int
		want uint64
	}{
		{"li 5", ins(1, 1, 7, 7, 5), 1, 5},
		{"li 127", ins(1, 7, 0, 0, 127), 7, 127},
		{"li -128", ins(1, 2, 0, 0, -128), 2, math.MaxUint64 - 127},
		{"li -1", ins(1, 3, 0, 0, -1), 3, math.MaxUint64},
		{"li 0", ins(1, 4, 0, 0, 0), 4, 0},
		{"li to x0", ins(1, 0, 0, 0, 9), 0, 0},
		{"add", ins(2, 3, 1, 2, 77), 3, three},
		{"add wraps", ins(2, 1, 7, 7, 0), 1, 0xeeeeeeeeeeeeeeee},
		{"add x0", ins(2, 5, 2, 0, 0), 5, two},
		{"add to itself", ins(2, 1, 1, 1, 0), 1, two},
		{"add to x0", ins(2, 0, 1, 2, 0), 0, 0},
		{"addi 1", ins(3, 2, 1, 5, 1), 2, one + 1},
		{"addi -1", ins(3, 2, 1, 0, -1), 2, one - 1},
		{"addi -128", ins(3, 1, 1, 0, -128), 1, one - 128},
		{"addi 127", ins(3, 1, 1, 0, 127), 1, one + 127},
		{"addi wraps down", ins(3, 1, 0, 0, -128), 1, math.MaxUint64 - 127},
		{"addi to x0", ins(3, 0, 1, 0, 1), 0, 0},
		{"shl 0", ins(4, 2, 1, 3, 0), 2, one},
		{"shl 4", ins(4, 2, 1, 3, 4), 2, 0x1111111111111110},
		{"shl 63", ins(4, 2, 1, 0, 63), 2, 1 << 63},
		{"shl 64 is 0", ins(4, 2, 1, 0, 64), 2, one},
		{"shl -1 is 63", ins(4, 1, 1, 0, -1), 1, 1 << 63},
		{"shl -128 is 0", ins(4, 3, 1, 0, -128), 3, one},
		{"shl 127 is 63", ins(4, 3, 1, 0, 127), 3, 1 << 63},
		{"shl 68 is 4", ins(4, 3, 1, 0, 68), 3, 0x1111111111111110},
		{"shl to x0", ins(4, 0, 1, 0, 1), 0, 0},
	}
	for _, r := range rows {
		for mode := range int64(3) {
			for _, spare := range [][]byte{{0, 0}, {64, 8}, {128, 128}, {192, 248}} {
				code := slices.Clone(r.code)
				code[1] += spare[0]
				code[2] += spare[1]
				wantChange(t, r.name, smallHart(mode, code...), func(h *impl.Hart) { h.Regs[r.reg] = r.want })
			}
		}
	}
}

func TestStepJumps(t *testing.T) {
	rows := []struct {
		name string
		code []byte
		pc   uint64
		want uint64
	}{
		{"bne equal", ins(8, 3, 3, 0, 5), 0, 4},
		{"bne x0 with x0", ins(8, 0, 0, 0, 5), 40, 44},
		{"bne forward", ins(8, 3, 4, 0, 5), 8, 28},
		{"bne 0 stays", ins(8, 3, 4, 0, 0), 8, 8},
		{"bne back", ins(8, 0, 4, 0, -2), 8, 0},
		{"bne below 0", ins(8, 4, 0, 7, -3), 8, math.MaxUint64 - 3},
		{"bne 127", ins(8, 4, 0, 7, 127), 60, 60 + 508},
		{"bne -128", ins(8, 4, 0, 7, -128), 60, math.MaxUint64 - 451},
	}
	for _, r := range rows {
		for mode := range int64(3) {
			h := smallHart(mode)
			h.Pc = r.pc
			copy(h.Mem[r.pc:], r.code)
			wantChange(t, r.name, h, func(h *impl.Hart) { h.Pc = r.want })
		}
	}
	for emode := range int64(3) {
		for imm, want := range map[int]uint64{0: 1000, 1: 1004, 127: 1508, -1: 996, -128: 488} {
			h := smallHart(impl.ModeM, ins(12, 7, 7, 7, imm)...)
			h.Epc, h.Emode = 1000, emode
			wantChange(t, "ret", h, func(h *impl.Hart) { h.Pc, h.Mode = want, emode })
		}
		h := smallHart(impl.ModeM, ins(12, 0, 0, 0, -2)...)
		h.Epc, h.Emode = 4, emode
		wantChange(t, "ret below 0", h, func(h *impl.Hart) { h.Pc, h.Mode = math.MaxUint64-3, emode })
		h = smallHart(impl.ModeM, ins(12, 0, 0, 0, 1)...)
		h.Epc, h.Emode = math.MaxUint64, emode
		wantChange(t, "ret past 2^64, to no multiple of 4", h, func(h *impl.Hart) { h.Pc, h.Mode = 3, emode })
	}
}

func TestStepControl(t *testing.T) {
	for c := range 3 {
		for _, spare := range []int{0, 8, 248} {
			h := smallHart(impl.ModeM, ins(13, 5, 2, c+spare, 9)...)
			wantChange(t, "setret", h, func(h *impl.Hart) { h.Epc, h.Emode = 0x5555555555555555, int64(c) })
			h = smallHart(impl.ModeM, ins(13, 0, 2, c+spare, 9)...)
			h.Epc, h.Emode = 7, impl.ModeS
			wantChange(t, "setret x0", h, func(h *impl.Hart) { h.Epc, h.Emode = 0, int64(c) })
		}
	}
	for _, mode := range []int64{impl.ModeS, impl.ModeM} {
		for scheme := range uint64(16) {
			h := smallHart(mode, ins(9, 6, 1, 1, 1)...)
			h.Satp = 3<<44 | 5
			h.Regs[6] = scheme<<60 | 77<<44 | 12
			wantChange(t, "satp", h, func(h *impl.Hart) {
				if scheme == 0 || scheme == 8 {
					h.Satp = h.Regs[6]
				}
			})
		}
		h := smallHart(mode, ins(9, 0, 0, 0, 0)...)
		h.Satp = 5
		wantChange(t, "satp x0", h, func(h *impl.Hart) { h.Satp = 0 })
		for bits := range uint64(16) {
			for _, upper := range []uint64{0, 16, 1<<64 - 16} {
				h := smallHart(mode, ins(10, 2, 1, 1, 1)...)
				h.Sum, h.Mxr = bits/4%2 == 1, bits/8 == 1
				h.Regs[2] = bits%4 | upper
				wantChange(t, "status", h, func(h *impl.Hart) { h.Sum, h.Mxr = bits%2 == 1, bits/2%2 == 1 })
			}
		}
		wantChange(t, "status x0", smallHart(mode, ins(10, 0, 0, 0, 0)...), func(h *impl.Hart) {})
	}
}

func TestStepIllegalAndCalls(t *testing.T) {
	for op := range 256 {
		for mode := range int64(3) {
			for c := range 8 {
				code := ins(op, 5, 6, c, -7)
				word := uint64(op) | 53<<8 | uint64(c)<<16 | 249<<24
				h := smallHart(mode, code...)
				h.Cause, h.Tval, h.Epc, h.Emode = 33, 44, 55, impl.ModeS
				system := op == 9 || op == 10 || op == 11
				switch {
				case op == 14:
					wantTrap(t, "call", h, 8+mode, 0)
				case op == 0 || op > 14, mode == 0 && system, mode != 2 && (op == 12 || op == 13), op == 13 && c > 2:
					wantTrap(t, "illegal", h, impl.CauseIllegal, word)
				default:
					for _, got := range checkBoth(t, h, 0) {
						if got.Cause == impl.CauseIllegal || got.Hart.Regs[0] != 0 {
							t.Errorf("op %d in mode %d: %+v", op, mode, got)
						}
					}
				}
			}
		}
	}
	h := smallHart(impl.ModeM, 0, 1, 2, 3)
	wantTrap(t, "the four bytes, lowest first", h, impl.CauseIllegal, 0x03020100)
	h = smallHart(impl.ModeU, 0xff, 0xfe, 0xfd, 0xfc)
	wantTrap(t, "upper bits", h, impl.CauseIllegal, 0xfcfdfeff)
}

// All registers and many immediates, in each mode, against the second telling alone.
func TestStepEveryOperand(t *testing.T) {
	for op := 1; op <= 14; op++ {
		for p := range 256 {
			if p >= 64 && p%7 != 0 {
				continue
			}
			for _, q := range []byte{0, 1, 2, 3, 4, 5, 6, 7, 11, 255} {
				for _, r := range []byte{0, 1, 63, 127, 128, 255} {
					h := smallHart(int64(p+int(r))%3, byte(op), byte(p), q, r)
					h.Regs[2], h.Regs[3], h.Regs[4] = 64, 126, 1
					h.Epc, h.Emode = 20, int64(q)%3
					checkBoth(t, h, int64(r))
				}
			}
		}
	}
}

// Every place of a small memory and beside it, in the mode that translates nothing.
func TestStepAccessesWithoutTranslation(t *testing.T) {
	places := []uint64{1 << 14, 1 << 32, 1 << 63, 4096}
	for i := range uint64(150) {
		places = append(places, i, -i)
	}
	for _, size := range []uint64{64, 128} {
		for _, ea := range places {
			for op := 5; op <= 7; op++ {
				for c := range 8 {
					width := uint64(1) << (c % 4)
					if op == 7 {
						width = 8
					}
					h := smallHart(int64(c)%3, ins(op, 3, 2, c, 5)...)
					h.Mem = numbered(int(size))
					copy(h.Mem, ins(op, 3, 2, c, 5))
					h.Regs[2], h.Satp = ea-5, 77
					checkAccess(t, h, ea, width, op, c)
				}
			}
		}
	}
}

func checkAccess(t *testing.T, h impl.Hart, ea uint64, width uint64, op int, c int) {
	t.Helper()
	kind := map[int]int64{5: impl.CauseLoadAccess, 6: impl.CauseStoreAccess, 7: impl.CauseStoreAccess}[op]
	read := wantRead(h.Mem, ea, int64(width))
	if !read.Ok {
		tval := ea
		if ea < uint64(len(h.Mem)) {
			tval = uint64(len(h.Mem))
		}
		wantTrap(t, "access", h, kind, tval)
		return
	}
	wantChange(t, "access", h, func(h *impl.Hart) {
		switch op {
		case 5:
			h.Regs[3] = read.Val
		case 6:
			h.Mem = wantWrite(h.Mem, ea, int64(width), h.Regs[3])
		case 7:
			h.Mem = wantWrite(h.Mem, ea, 8, read.Val+h.Regs[c])
			h.Regs[3] = read.Val
		}
	})
}

func TestStepAmo(t *testing.T) {
	rows := []struct {
		name    string
		a, b, c int
		xa, mem uint64
	}{
		{"apart", 3, 2, 4, 0x0102030405060708, 0x0102030405060708 + 0x4444444444444444},
		{"xa is xc", 4, 2, 4, 0x0102030405060708, 0x0102030405060708 + 0x4444444444444444},
		{"xa is xb", 2, 2, 4, 0x0102030405060708, 0x0102030405060708 + 0x4444444444444444},
		{"xb is xc", 3, 2, 2, 0x0102030405060708, 0x0102030405060708 + 60},
		{"all one", 2, 2, 2, 0x0102030405060708, 0x0102030405060708 + 60},
		{"xa is x0", 0, 2, 4, 0, 0x0102030405060708 + 0x4444444444444444},
		{"xc is x0", 3, 2, 0, 0x0102030405060708, 0x0102030405060708},
		{"wraps", 3, 2, 7, 0x0102030405060708, 0x0102030405060707},
	}
	for _, r := range rows {
		h := smallHart(impl.ModeM, ins(7, r.a, r.b, r.c, 0)...)
		h.Regs[2], h.Regs[7] = 60, math.MaxUint64
		put8(h.Mem, 60, 0x0102030405060708)
		wantChange(t, r.name, h, func(h *impl.Hart) {
			h.Regs[r.a] = r.xa
			put8(h.Mem, 60, r.mem)
		})
	}
}

func TestStepWidths(t *testing.T) {
	for _, at := range []uint64{64, 71, 62, 61, 57} {
		for c, mask := range []uint64{0xff, 0xffff, 0xffffffff, math.MaxUint64} {
			h := smallHart(impl.ModeM, ins(5, 6, 1, c, 1)...)
			h.Regs[1] = at - 1
			put8(h.Mem, int(at), 0xf1e2d3c4b5a69788)
			wantChange(t, "load", h, func(h *impl.Hart) { h.Regs[6] = 0xf1e2d3c4b5a69788 & mask })
			h = smallHart(impl.ModeM, ins(6, 6, 1, c, -1)...)
			h.Regs[1] = at + 1
			put8(h.Mem, int(at), 0xf1e2d3c4b5a69788)
			wantChange(t, "store", h, func(h *impl.Hart) { put8(h.Mem, int(at), 0xf1e2d3c4b5a69788&^mask|0x6666666666666666&mask) })
		}
	}
	h := smallHart(impl.ModeM, ins(5, 0, 1, 3, 0)...)
	h.Regs[1] = 64
	put8(h.Mem, 64, 99)
	wantChange(t, "load to x0", h, func(h *impl.Hart) {})
	h = smallHart(impl.ModeM, ins(5, 0, 1, 0, 0)...)
	h.Regs[1] = 128
	wantTrap(t, "load to x0 past the end", h, impl.CauseLoadAccess, 128)
}

// An instruction may be written over by the one before it, and a store may reach its own code.
func TestStepWritesCode(t *testing.T) {
	h := smallHart(impl.ModeM, slices.Concat(ins(6, 5, 0, 2, 4), ins(14, 0, 0, 0, 0))...)
	h.Regs[5] = 0x09000001 | 2<<8
	for plain, got := range checkBoth(t, h, 0) {
		next := checkStep(t, got.Hart, plain == 1, 0)
		if next.Cause != 0 || next.Hart.Regs[2] != 9 {
			t.Errorf("the new instruction: %+v", next)
		}
	}
}

func TestStepAlignmentAndFetch(t *testing.T) {
	for mode := range int64(3) {
		for pc := range uint64(140) {
			for _, at := range []uint64{pc, pc - 140} {
				h := smallHart(mode, bytes.Repeat([]byte{1, 1, 0, 1}, 32)...)
				h.Pc = at
				switch {
				case at%4 != 0:
					wantTrap(t, "alignment", h, impl.CauseAlign, at)
				case at >= 128:
					wantTrap(t, "fetch past the end", h, impl.CauseFetchAccess, at)
				default:
					wantChange(t, "fetch", h, func(h *impl.Hart) { h.Regs[1] = 1 })
				}
			}
		}
	}
	h := smallHart(impl.ModeS)
	h.Satp = satpOn | 1<<40
	h.Pc = 1<<14 | 2
	wantTrap(t, "alignment comes before the translation", h, impl.CauseAlign, 1<<14|2)
}

// A trap tells of the last one anew, and goes where Tvec says even when nothing is there.
func TestStepTrapAfterTrap(t *testing.T) {
	for _, tvec := range []uint64{0, 64, 4096, math.MaxUint64 - 3} {
		h := smallHart(impl.ModeU, ins(14, 0, 0, 0, 0)...)
		h.Tvec, h.Epc, h.Emode, h.Cause, h.Tval, h.Sum, h.Mxr = tvec, 12, impl.ModeS, 13, 14, true, true
		wantTrap(t, "a call", h, impl.CauseCallU, 0)
		next := checkStep(t, h, false, 0).Hart
		if tvec >= 4096 {
			wantTrap(t, "no code at Tvec", next, impl.CauseFetchAccess, tvec)
		}
	}
	h := smallHart(impl.ModeM, ins(1, 1, 0, 0, 1)...)
	h.Epc, h.Emode, h.Cause, h.Tval = 12, impl.ModeS, 13, 14
	wantChange(t, "no trap: the last one is told still", h, func(h *impl.Hart) { h.Regs[1] = 1 })
}
