package tests

import (
	"bytes"
	"slices"
	"testing"

	"loop.example/s0051/impl"
)

// The tests of promise 9, part five, and of promise 10: runs of n steps, and the same steps one by one.

// someProgram is a script that is at home in its tables: translation is on or comes on, code and data are there, and so
// are stores into the tables, fences and other address spaces. Traps come back by a small handler in mode M.
//
// Physical pages: 0 the handler, 1 the root, 2 a table of level 1, 3 and 4 tables of level 0, 5 and 6 code, then data.
func someProgram(d *dice, steps int) []byte {
	mode := []int64{impl.ModeU, impl.ModeS, impl.ModeS, impl.ModeM}[d.below(4)]
	h := impl.Hart{Mem: make([]byte, 1024), Regs: make([]uint64, 8), Mode: mode, Sum: d.below(2) == 1, Mxr: d.below(2) == 1}
	h.Caches = impl.Caches{I: emptyTlb(someShape(d)), D: emptyTlb(someShape(d)), P: emptyTlb(someShape(d))}
	for i := 448; i < 1024; i++ {
		h.Mem[i] = byte(d.next() >> 20)
	}
	someMaps(d, h.Mem, min(mode, impl.ModeS))
	copy(h.Mem, someHandler(d, min(mode, impl.ModeS)))
	for at := 320; at < 448; at += 4 {
		copy(h.Mem[at:], someIns(d))
	}
	h.Pc, h.Satp = 320+4*d.below(8), satpOn|d.below(2)<<44|1
	h.Regs[1] = []uint64{192, 256, 128}[d.below(3)] + 8*d.below(8)
	h.Regs[2] = 64*d.below(24) + d.below(64)
	h.Regs[3] = d.below(16)<<10 | codeBits(min(mode, impl.ModeS)) | d.below(2)*impl.BitG
	if h.Regs[1] < 192 && d.below(4) > 0 {
		h.Regs[1], h.Regs[3] = 128+8*d.below(2), (3+d.below(2))<<10|d.below(4)<<8|impl.BitV
	}
	h.Regs[4], h.Regs[5] = d.below(64)<<6, []uint64{1024, 1, 0}[d.below(3)]
	h.Regs[6] = satpOn | d.below(2)<<44 | 1
	h.Regs[7] = 320 + 4*d.below(8)
	if d.below(8) == 0 {
		h.Satp = 0
	}
	picks := make([]int64, steps)
	for i := range picks {
		picks[i] = int64(d.below(256))
		if d.below(4) > 0 {
			picks[i] %= 128
		}
	}
	return textOf(h, picks)
}

// someMaps lets most virtual pages be the physical ones of the same number.
func someMaps(d *dice, mem []byte, mode int64) {
	pointer := func(table uint64) uint64 {
		return table<<10 | d.below(4)<<8 | impl.BitV | d.below(2)*d.below(2)*impl.BitG
	}
	put8(mem, 64, pointer(2))
	put8(mem, 64+8, 0<<10|codeBits(mode))
	put8(mem, 64+56, pointer(2))
	put8(mem, 128, pointer(3))
	put8(mem, 128+8, pointer(4))
	put8(mem, 128+16, 8*d.below(2)<<10|codeBits(mode))
	put8(mem, 128+24, someEntry(d, 16))
	put8(mem, 128+56, pointer(3))
	for page := range uint64(16) {
		pte := page<<10 | codeBits(mode) | d.below(2)*d.below(2)*impl.BitG
		switch d.below(16) {
		case 0:
			pte = someEntry(d, 17)
		case 1:
			pte ^= 1 << d.below(8)
		case 2, 3, 4:
			pte = (7+d.below(10))<<10 | pte%1024
		}
		if page == 5 || page >= 1 && page <= 4 && d.below(8) > 0 {
			pte = page<<10 | codeBits(mode)
		}
		put8(mem, 192+8*int(page), pte)
	}
}

// someHandler comes back from a trap: behind the instruction, or at the beginning.
func someHandler(d *dice, mode int64) []byte {
	back := ins(12, 0, 0, 0, 1)
	again := slices.Concat(ins(13, 7, 0, int(mode), 0), ins(12, 0, 0, 0, 0))
	switch d.below(5) {
	case 0:
		return again
	case 1:
		return slices.Concat(ins(11, 0, 0, 0, 0), back)
	case 2:
		return slices.Concat(ins(6, 3, 1, 3, 0), back)
	case 3:
		return slices.Concat(ins(8, 4, 0, 0, 3), ins(3, 4, 4, 0, 1), back, again)
	}
	return back
}

func someIns(d *dice) []byte {
	scratch := func() int { return 4 + int(d.below(2)) }
	near := int(d.below(96)) - 32
	switch d.below(24) {
	case 0, 1, 2, 3:
		return ins(5, scratch(), 2, int(d.below(8)), near)
	case 4, 5:
		return ins(6, scratch(), 2, int(d.below(8)), near)
	case 6, 7:
		return ins(6, 3, 1, 3, 0)
	case 8:
		return ins(7, scratch(), 1, 5, 0)
	case 9:
		return ins(7, scratch(), 2, scratch(), near)
	case 10:
		return ins(11, int(d.below(3)), []int{0, 0, 5, 6}[d.below(4)], 0, 0)
	case 11:
		return ins(9, 6, 0, 0, 0)
	case 12:
		return ins(10, scratch(), 0, 0, 0)
	case 13:
		return ins(1, scratch(), 0, 0, int(d.below(256)))
	case 14:
		return ins(3, 2, 2, 0, []int{64, -64, 1, 32}[d.below(4)])
	case 15:
		return ins(3, 1, 1, 0, []int{8, -8}[d.below(2)])
	case 16:
		return ins(4, scratch(), scratch(), 0, int(d.below(64)))
	case 17:
		return ins(2, []int{3, 4, 5, 2}[d.below(4)], []int{3, 2}[d.below(2)], 5, 0)
	case 18, 19:
		return ins(8, scratch(), int(d.below(8)), 0, int(d.below(16))-8)
	case 20:
		return ins(14, 0, 0, 0, 0)
	case 21:
		return ins(12+int(d.below(2)), 7, 0, int(d.below(4)), 0)
	}
	return ins(int(d.below(16)), int(d.below(8)), int(d.below(8)), int(d.below(8)), int(d.below(256)))
}

// someText is anything at all, though with few steps.
func someText(d *dice) []byte {
	b := make([]byte, d.below(400))
	for i := range b {
		b[i] = byte(d.next() >> 20)
		if d.below(3) == 0 {
			b[i] %= 16
		}
	}
	if len(b) > 6 {
		b[6] = 0
	}
	if len(b) > 30 {
		b[14], b[13] = 0, 0
		if d.below(2) == 0 {
			clear(b[8:15])
			b[30] = 0x80
		}
	}
	return b
}

// checkRun holds a run against the steps of the second telling, and its argument against what it was before.
func checkRun(t *testing.T, b []byte, plain bool) impl.Result {
	t.Helper()
	before := bytes.Clone(b)
	got, want := impl.RunBytes(b, plain), stepped(wantScript(before), plain, wantStep)
	if !sameResult(got, want) {
		t.Fatalf("plain %v, text % x:\n%+v, want\n%+v", plain, before, got, want)
	}
	if !bytes.Equal(b, before) {
		t.Fatalf("plain %v, text % x: the argument was written into", plain, before)
	}
	return got
}

// checkSteps is promise 10: the same by StepHart, one by one.
func checkSteps(t *testing.T, b []byte, plain bool) {
	t.Helper()
	script := impl.DecodeScript(b)
	got := stepped(script, plain, impl.StepHart)
	if want := impl.RunBytes(b, plain); !sameResult(got, want) {
		t.Fatalf("plain %v, text % x: by steps\n%+v, by the run\n%+v", plain, b, got, want)
	}
	if !sameScript(script, impl.DecodeScript(b)) {
		t.Fatalf("plain %v, text % x: the steps wrote into their hart", plain, b)
	}
}

// A small program, with all of its result.
func TestRunRow(t *testing.T) {
	code := slices.Concat(ins(1, 1, 0, 0, 5), ins(3, 2, 1, 0, -3), ins(4, 3, 1, 0, 4), ins(6, 1, 3, 0, 0), ins(8, 1, 2, 0, 2), ins(0, 0, 0, 0, 0), ins(13, 3, 0, 1, 0), ins(14, 0, 0, 0, 0))
	h := smallHart(impl.ModeM, code...)
	b := textOf(h, make([]int64, 8))
	want := resultOf(cloneHart(h), nil)
	for i := range uint64(5) {
		want.Events = append(want.Events, impl.Event{Pc: 4 * i, Mode: impl.ModeM})
	}
	want.Events = append(want.Events, impl.Event{Pc: 24, Mode: impl.ModeM}, impl.Event{Pc: 28, Mode: impl.ModeM, Cause: impl.CauseCallM}, impl.Event{Pc: 64, Mode: impl.ModeM, Cause: impl.CauseIllegal})
	want.Regs[1], want.Regs[2], want.Regs[3] = 5, 2, 80
	want.Mem[80] = 5
	want.Pc, want.Epc, want.Emode, want.Cause = 64, 64, impl.ModeM, impl.CauseIllegal
	for _, plain := range []bool{false, true} {
		if got := checkRun(t, b, plain); !sameResult(got, want) {
			t.Errorf("%+v, want %+v", got, want)
		}
	}
}

func TestRunOfNoAndOneStep(t *testing.T) {
	for _, plain := range []bool{false, true} {
		for _, b := range [][]byte{nil, {}, {1, 2, 3}, headText(0, 0), headText(0, 9)} {
			got := checkRun(t, b, plain)
			if len(got.Events) != 0 || !sameResult(got, resultOf(impl.DecodeScript(b).Hart, nil)) {
				t.Errorf("no step: %+v", got)
			}
		}
		b := headText(1, 0)
		got, script := checkRun(t, b, plain), impl.DecodeScript(b)
		step := impl.StepHart(script.Hart, plain, script.Picks[0])
		event := impl.Event{Pc: script.Hart.Pc, Mode: script.Hart.Mode, Cause: step.Cause, Tval: step.Tval}
		if len(got.Events) != 1 || got.Events[0] != event || !sameResult(got, resultOf(step.Hart, got.Events)) {
			t.Errorf("one step: %+v", got)
		}
	}
}

// As many steps as there can be: with traps all the way, in a loop, and through tables.
func TestRunOfTwentyThousandSteps(t *testing.T) {
	d := dice(20000)
	loop := pagedHart(impl.ModeS, slices.Concat(ins(7, 3, 2, 5, 0), ins(3, 4, 4, 0, 1), ins(8, 4, 0, 0, -2))...)
	setPage(&loop, 7, "ok")
	setPage(&loop, 8, "ok")
	loop.Regs[2], loop.Regs[5] = 508, 1
	for _, n := range []int{20000, 20001, 65535} {
		for i, b := range [][]byte{textOf(smallHart(impl.ModeU), make([]int64, 5)), textOf(loop, make([]int64, 5)), someProgram(&d, 5)} {
			b[5], b[6] = byte(n), byte(n/256)
			for _, plain := range []bool{false, true} {
				got := impl.RunBytes(b, plain)
				if len(got.Events) != 20000 || len(got.Mem) != len(impl.DecodeScript(b).Hart.Mem) || len(got.Regs) != 8 {
					t.Errorf("text %d, %d steps: %d events, %d bytes", i, n, len(got.Events), len(got.Mem))
				}
				if n == 20000 {
					checkSteps(t, b, plain)
				}
				if i == 1 && (got.Regs[4] != 0x4444444444444444+6666+1 || got.Cause != 0) {
					t.Errorf("the loop: %+v", got.Regs)
				}
			}
		}
	}
}

func TestRunsShareNothing(t *testing.T) {
	d := dice(321)
	for _, plain := range []bool{false, true} {
		text := someProgram(&d, 40)
		b := append(make([]byte, 0, len(text)+100), text...)
		want := impl.RunBytes(text, plain)
		got := impl.RunBytes(b, plain)
		fill(got.Mem[:cap(got.Mem)], 0xee)
		for i := range got.Regs {
			got.Regs[i] = 0xee
		}
		for i := range got.Events {
			got.Events[i] = impl.Event{Pc: 99}
		}
		if !bytes.Equal(b, text) || bytes.Count(b[len(b):cap(b)], []byte{0}) != cap(b)-len(b) {
			t.Error("the answer shares memory with the text")
		}
		if !sameResult(impl.RunBytes(b, plain), want) {
			t.Error("another run gives another answer")
		}
	}
}

// ranCounts tells what generated runs came by, so that none of it is left out by chance.
type ranCounts struct {
	causes map[int64]int
	modes  map[int64]int
	differ int
}

func (r *ranCounts) add(cached impl.Result, plain impl.Result) {
	for _, e := range cached.Events {
		r.causes[e.Cause]++
		r.modes[e.Mode]++
	}
	if !sameResult(cached, plain) {
		r.differ++
	}
}

func (r *ranCounts) check(t *testing.T) {
	t.Helper()
	for _, cause := range []int64{0, 1, 2, 5, 7, 8, 9, 10, 12, 13, 15, 20} {
		if r.causes[cause] < 25 {
			t.Errorf("cause %d came only %d times", cause, r.causes[cause])
		}
	}
	for mode := range int64(3) {
		if r.modes[mode] < 1000 {
			t.Errorf("mode %d came only %d times", mode, r.modes[mode])
		}
	}
	if r.differ < 50 {
		t.Errorf("only %d times the caches were seen", r.differ)
	}
}

func TestRunsGenerated(t *testing.T) {
	d := dice(9119)
	counts := ranCounts{causes: map[int64]int{}, modes: map[int64]int{}}
	for range 700 {
		b := someProgram(&d, 60+int(d.below(60)))
		counts.add(checkRun(t, b, false), checkRun(t, b, true))
	}
	counts.check(t)
	for range 1500 {
		b := someText(&d)
		for _, plain := range []bool{false, true} {
			got := checkRun(t, b, plain)
			if n := int(numberOf(b, 5, 2)); len(got.Events) != n {
				t.Fatalf("%d events of %d steps", len(got.Events), n)
			}
		}
	}
}

func TestStepsAreTheRun(t *testing.T) {
	d := dice(1010)
	for i := range 300 {
		b := someProgram(&d, 200)
		if i%3 == 0 {
			b = someText(&d)
		}
		for _, plain := range []bool{false, true} {
			checkSteps(t, b, plain)
		}
	}
}

// A run knows nothing of the one before it, and a step nothing of another.
func TestRunsAreAlone(t *testing.T) {
	d := dice(77)
	for range 50 {
		a, b := someProgram(&d, 100), someProgram(&d, 100)
		first := impl.RunBytes(a, false)
		impl.RunBytes(b, false)
		impl.RunBytes(a, true)
		if !sameResult(impl.RunBytes(a, false), first) {
			t.Fatalf("text % x: a second run gives another answer", a)
		}
	}
}
