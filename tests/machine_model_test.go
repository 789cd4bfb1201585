package tests

import (
	"bytes"
	"slices"
	"testing"

	"loop.example/s0051/impl"
)

// Chapter 5 told a second time, for the tests of promises 9 to 16; its 5.6 stands in discipline_model_test.go. Here a
// step changes nothing before it knows that it will not trap, so that there is nothing to put back.

func wantHartValid(h impl.Hart) bool {
	if len(h.Mem) < 64 || len(h.Mem) > 4096 || len(h.Mem)%64 != 0 || len(h.Regs) != 8 || h.Regs[0] != 0 {
		return false
	}
	known := []int64{0, 1, 2}
	if !slices.Contains(known, h.Mode) || !slices.Contains(known, h.Emode) || h.Cause < 0 || h.Cause > 63 || h.Tvec%4 != 0 {
		return false
	}
	return (h.Satp/(1<<60) == 0 || h.Satp/(1<<60) == 8) && wantCachesValid(h.Caches)
}

// cloneHart leaves spare memory behind its lists, which no call may write into.
func cloneHart(h impl.Hart) impl.Hart {
	h.Mem = append(make([]byte, 0, len(h.Mem)+8), h.Mem...)
	h.Regs = append(make([]uint64, 0, len(h.Regs)+8), h.Regs...)
	h.Caches = cloneCaches(h.Caches)
	return h
}

func sameHart(a, b impl.Hart) bool {
	parts := a.Pc == b.Pc && a.Mode == b.Mode && a.Sum == b.Sum && a.Mxr == b.Mxr && a.Satp == b.Satp
	traps := a.Tvec == b.Tvec && a.Epc == b.Epc && a.Emode == b.Emode && a.Cause == b.Cause && a.Tval == b.Tval
	return parts && traps && bytes.Equal(a.Mem, b.Mem) && slices.Equal(a.Regs, b.Regs) && sameCaches(a.Caches, b.Caches)
}

func sameStep(a, b impl.StepRes) bool {
	return a.Ok == b.Ok && a.Cause == b.Cause && a.Tval == b.Tval && sameHart(a.Hart, b.Hart)
}

// stepping is a step under way: h is the hart so far, of which only the caches change before the step is sure. The ghost
// records are there only when somebody asks for discipline.
type stepping struct {
	h      impl.Hart
	c      impl.Ctx
	plain  bool
	pick   int64
	cause  int64
	tval   uint64
	ghosts *ghostSet
}

func (s *stepping) trap(cause int64, tval uint64) {
	s.cause, s.tval = cause, tval
}

func (s *stepping) translate(kind int64, va uint64) (uint64, bool) {
	if s.ghosts != nil {
		s.ghosts.translate(s.h.Mem, s.c, kind, va)
	}
	if s.plain {
		got := wantTrans(s.h.Mem, s.c, kind, va)
		s.trap(got.Cause, va)
		return got.Pa, got.Cause == 0
	}
	got := wantCached(s.h.Mem, s.c, s.h.Caches, kind, va, s.pick)
	s.h.Caches = got.Caches
	s.trap(got.Cause, va)
	return got.Pa, got.Cause == 0
}

// places has the address in Mem of each byte of an access; it answers false after a trap.
func (s *stepping) places(kind int64, va uint64, width uint64) ([]uint64, bool) {
	places, begins := []uint64{}, []uint64{}
	pa, begin := uint64(0), va
	for i := range width {
		if i == 0 || (va+i)%64 == 0 {
			begin = va + i
			found := false
			if pa, found = s.translate(kind, begin); !found {
				return nil, false
			}
		}
		places, begins = append(places, pa+va+i-begin), append(begins, begin)
	}
	for i, place := range places {
		if place >= uint64(len(s.h.Mem)) {
			s.trap([]int64{1, 5, 7}[kind], begins[i])
			return nil, false
		}
	}
	s.trap(0, 0)
	return places, true
}

func (s *stepping) load(places []uint64) uint64 {
	val := uint64(0)
	for _, place := range slices.Backward(places) {
		val = val*256 + uint64(s.h.Mem[place])
	}
	return val
}

func (s *stepping) store(places []uint64, val uint64) {
	for _, place := range places {
		s.h.Mem[place] = byte(val)
		val /= 256
	}
}

func (s *stepping) put(reg byte, val uint64) {
	s.h.Regs[reg] = val
	s.h.Regs[0] = 0
}

func (s *stepping) run() {
	h := &s.h
	if h.Pc%4 != 0 {
		s.trap(20, h.Pc)
		return
	}
	places, found := s.places(impl.KindFetch, h.Pc, 4)
	if !found {
		return
	}
	word := s.load(places)
	op, p, q, r := word%256, byte(word/256), byte(word/65536), word/(1<<24)
	a, b, c, imm := p%8, p/8%8, q%8, r
	if r >= 128 {
		imm = r - 256
	}
	modes := map[uint64][]int64{9: {1, 2}, 10: {1, 2}, 11: {1, 2}, 12: {2}, 13: {2}}[op]
	if op < 1 || op > 14 || modes != nil && !slices.Contains(modes, h.Mode) || op == 13 && c > 2 {
		s.trap(2, word)
		return
	}
	if op == 14 {
		s.trap([]int64{8, 9, 10}[h.Mode], 0)
		return
	}
	if op >= 5 && op <= 7 {
		s.access(op, a, h.Regs[b]+imm, c)
		return
	}
	s.alone(op, a, b, c, imm)
}

func (s *stepping) access(op uint64, a byte, va uint64, c byte) {
	width, kind := []uint64{1, 2, 4, 8}[c%4], int64(impl.KindStore)
	if op == impl.InsAmo {
		width = 8
	}
	if op == impl.InsLoad {
		kind = impl.KindLoad
	}
	places, found := s.places(kind, va, width)
	if !found {
		return
	}
	s.h.Pc += 4
	switch op {
	case impl.InsLoad:
		s.put(a, s.load(places))
	case impl.InsStore:
		s.store(places, s.h.Regs[a])
	case impl.InsAmo:
		was := s.load(places)
		s.store(places, was+s.h.Regs[c])
		s.put(a, was)
	}
}

// alone executes what reads and writes no memory and cannot trap any more.
func (s *stepping) alone(op uint64, a byte, b byte, c byte, imm uint64) {
	h := &s.h
	xa, xb, pc := h.Regs[a], h.Regs[b], h.Pc
	h.Pc = pc + 4
	switch op {
	case impl.InsLi:
		s.put(a, imm)
	case impl.InsAdd:
		s.put(a, xb+h.Regs[c])
	case impl.InsAddi:
		s.put(a, xb+imm)
	case impl.InsShl:
		for range imm % 64 {
			xb *= 2
		}
		s.put(a, xb)
	case impl.InsBne:
		if xa != xb {
			h.Pc = pc + imm*4
		}
	case impl.InsSatp:
		if xa/(1<<60) == 0 || xa/(1<<60) == 8 {
			h.Satp = xa
		}
	case impl.InsStatus:
		h.Sum, h.Mxr = xa%2 == 1, xa/2%2 == 1
	case impl.InsFence:
		f := impl.Fence{HasVa: a != 0, Va: xa, HasAsid: b != 0, Asid: xb % 65536}
		if s.ghosts != nil {
			s.ghosts.fence(f)
		}
		if !s.plain {
			h.Caches = impl.Caches{I: wantFlush(h.Caches.I, f), D: wantFlush(h.Caches.D, f), P: wantFlush(h.Caches.P, f)}
		}
	case impl.InsRet:
		h.Pc, h.Mode = h.Epc+imm*4, h.Emode
	case impl.InsSetRet:
		h.Epc, h.Emode = xa, int64(c)
	}
}

func wantStep(h impl.Hart, plain bool, pick int64) impl.StepRes {
	return wantWatched(h, plain, pick, nil)
}

func wantWatched(h impl.Hart, plain bool, pick int64, ghosts *ghostSet) impl.StepRes {
	if !wantHartValid(h) || pick < 0 || pick > 255 {
		return impl.StepRes{}
	}
	s := stepping{h: cloneHart(h), c: impl.Ctx{Mode: h.Mode, Sum: h.Sum, Mxr: h.Mxr, Satp: h.Satp}, plain: plain, pick: pick, ghosts: ghosts}
	if pick >= 128 && !plain {
		for _, tlb := range []impl.Tlb{s.h.Caches.I, s.h.Caches.D, s.h.Caches.P} {
			tlb.Entries[int(pick-128)%len(tlb.Entries)] = impl.Entry{}
		}
	}
	s.run()
	if s.cause != 0 {
		s.h.Epc, s.h.Emode, s.h.Cause, s.h.Tval = h.Pc, h.Mode, s.cause, s.tval
		s.h.Mode, s.h.Pc = impl.ModeM, h.Tvec
	}
	return impl.StepRes{Ok: true, Cause: s.cause, Tval: s.tval, Hart: s.h}
}

// checkStep holds a step against chapter 5, and its argument against what it was before.
func checkStep(t *testing.T, h impl.Hart, plain bool, pick int64) impl.StepRes {
	t.Helper()
	before := cloneHart(h)
	got, want := impl.StepHart(h, plain, pick), wantStep(before, plain, pick)
	if !sameStep(got, want) {
		t.Fatalf("plain %v, pick %d, from %+v:\n%+v, want\n%+v", plain, pick, before, got, want)
	}
	if !sameHart(h, before) {
		t.Fatalf("plain %v, pick %d, from %+v: the argument was written into", plain, pick, before)
	}
	if got.Ok && !impl.ValidHart(got.Hart) {
		t.Fatalf("plain %v, pick %d, from %+v: the hart is not valid any more: %+v", plain, pick, before, got.Hart)
	}
	return got
}

// checkBoth is a step with caches and a plain one.
func checkBoth(t *testing.T, h impl.Hart, pick int64) []impl.StepRes {
	t.Helper()
	return []impl.StepRes{checkStep(t, h, false, pick), checkStep(t, h, true, pick)}
}

// byteOf and numberOf read a script's text, which goes on with 0 past its end.

func byteOf(b []byte, i int) byte {
	if i < len(b) {
		return b[i]
	}
	return 0
}

func numberOf(b []byte, i int, width int) uint64 {
	val := uint64(0)
	for at := i + width - 1; at >= i; at-- {
		val = val*256 + uint64(byteOf(b, at))
	}
	return val
}

func wantScript(b []byte) impl.Script {
	shape := func(y byte) impl.Tlb { return emptyTlb([]int64{1, 2, 4, 8}[y%4], []int64{1, 2, 3, 4}[y/4%4]) }
	h := impl.Hart{Caches: impl.Caches{I: shape(byteOf(b, 0)), D: shape(byteOf(b, 1)), P: shape(byteOf(b, 2))}}
	h.Mem = make([]byte, 64*(int(byteOf(b, 3))%64+1))
	h.Mode = []int64{0, 1, 2, 1}[byteOf(b, 4)%4]
	h.Emode, h.Sum, h.Mxr = h.Mode, byteOf(b, 4)/4%2 == 1, byteOf(b, 4)/8%2 == 1
	h.Pc, h.Tvec, h.Satp = numberOf(b, 7, 8), numberOf(b, 15, 8)/4*4, numberOf(b, 23, 8)
	if h.Satp/(1<<60) != 0 && h.Satp/(1<<60) != 8 {
		h.Satp = 0
	}
	h.Regs = make([]uint64, 8)
	for i := 1; i < 8; i++ {
		h.Regs[i] = numberOf(b, 23+8*i, 8)
	}
	at := 88
	for range int(byteOf(b, 87)) {
		addr, size := int(numberOf(b, at, 2)), int(byteOf(b, at+2))
		for i := range size {
			if addr+i < len(h.Mem) {
				h.Mem[addr+i] = byteOf(b, at+3+i)
			}
		}
		at += 3 + size
	}
	picks := []int64{}
	for i := range min(20000, int(numberOf(b, 5, 2))) {
		picks = append(picks, int64(byteOf(b, at+i)))
	}
	return impl.Script{Hart: h, Picks: picks}
}

func sameScript(a, b impl.Script) bool {
	return sameHart(a.Hart, b.Hart) && slices.Equal(a.Picks, b.Picks)
}

func checkScript(t *testing.T, b []byte) impl.Script {
	t.Helper()
	before := bytes.Clone(b)
	got, want := impl.DecodeScript(b), wantScript(before)
	if !sameScript(got, want) {
		t.Fatalf("text % x:\n%+v, want\n%+v", before, got, want)
	}
	if !bytes.Equal(b, before) {
		t.Fatalf("text % x: the argument was written into", before)
	}
	if !impl.ValidHart(got.Hart) {
		t.Fatalf("text % x: the hart is not valid: %+v", before, got.Hart)
	}
	return got
}

func sameResult(a, b impl.Result) bool {
	parts := a.Pc == b.Pc && a.Mode == b.Mode && a.Sum == b.Sum && a.Mxr == b.Mxr && a.Satp == b.Satp
	traps := a.Epc == b.Epc && a.Emode == b.Emode && a.Cause == b.Cause && a.Tval == b.Tval
	return parts && traps && slices.Equal(a.Events, b.Events) && bytes.Equal(a.Mem, b.Mem) && slices.Equal(a.Regs, b.Regs)
}

func resultOf(h impl.Hart, events []impl.Event) impl.Result {
	return impl.Result{
		Events: events, Mem: h.Mem, Regs: h.Regs, Pc: h.Pc, Mode: h.Mode, Sum: h.Sum, Mxr: h.Mxr, Satp: h.Satp,
		Epc: h.Epc, Emode: h.Emode, Cause: h.Cause, Tval: h.Tval,
	}
}

// stepped goes through a script step by step, by whatever makes a step.
func stepped(s impl.Script, plain bool, step func(h impl.Hart, plain bool, pick int64) impl.StepRes) impl.Result {
	h, events := s.Hart, []impl.Event{}
	for _, pick := range s.Picks {
		got := step(h, plain, pick)
		events = append(events, impl.Event{Pc: h.Pc, Mode: h.Mode, Cause: got.Cause, Tval: got.Tval})
		h = got.Hart
	}
	return resultOf(h, events)
}

// textOf is a script of a hart that has the traps and caches of a script's beginning, and of these picks.
func textOf(h impl.Hart, picks []int64) []byte {
	b := []byte{}
	for _, tlb := range []impl.Tlb{h.Caches.I, h.Caches.D, h.Caches.P} {
		b = append(b, byte(slices.Index([]int64{1, 2, 4, 8}, tlb.Sets))+byte(4*(tlb.Ways-1)))
	}
	flags := map[bool]byte{true: 1}
	b = append(b, byte(len(h.Mem)/64-1), byte(h.Mode)+4*flags[h.Sum]+8*flags[h.Mxr], byte(len(picks)), byte(len(picks)/256))
	for _, x := range append([]uint64{h.Pc, h.Tvec, h.Satp}, h.Regs[1:]...) {
		for i := range 8 {
			b = append(b, byte(x>>(8*i)))
		}
	}
	b = append(b, 0)
	for addr, piece := range chunksOf(h.Mem) {
		b[87]++
		b = append(append(b, byte(addr), byte(addr/256), byte(len(piece))), piece...)
	}
	for _, pick := range picks {
		b = append(b, byte(pick))
	}
	return b
}

// chunksOf has the pieces of mem that are short enough for a run, but for those that are all 0.
func chunksOf(mem []byte) func(yield func(int, []byte) bool) {
	return func(yield func(int, []byte) bool) {
		for addr := 0; addr < len(mem); addr += 64 {
			piece := mem[addr : addr+64]
			if bytes.Count(piece, []byte{0}) < 64 && !yield(addr, piece) {
				return
			}
		}
	}
}
