package tests

import (
	"bytes"
	"slices"
	"testing"

	"loop.example/s0051/impl"
)

// The tests of promises 12, 13, 14 and 16: a disciplined script cannot see the caches, another one can.

// lived is what a plain run came by; all of it counts only once translation was on.
type lived struct {
	on, turnedOn, tables, fences, satps, traps bool
}

func ctxOf(h impl.Hart) impl.Ctx {
	return impl.Ctx{Mode: h.Mode, Sum: h.Sum, Mxr: h.Mxr, Satp: h.Satp}
}

// opAt is the op of the instruction that comes next, or 0 when it cannot be fetched.
func opAt(h impl.Hart) byte {
	at := wantTrans(h.Mem, ctxOf(h), impl.KindFetch, h.Pc)
	if at.Cause != 0 || at.Pa >= uint64(len(h.Mem)) {
		return 0
	}
	return h.Mem[at.Pa]
}

// lifeOf is for scripts that change their tables at the addresses 64..319.
func lifeOf(b []byte) lived {
	l, script := lived{}, impl.DecodeScript(b)
	h := script.Hart
	l.turnedOn = !isOn(ctxOf(h))
	for range script.Picks {
		step := impl.StepHart(h, true, 0)
		next := step.Hart
		l.on = l.on || isOn(ctxOf(h))
		l.tables = l.tables || l.on && !bytes.Equal(h.Mem[64:320], next.Mem[64:320])
		l.fences = l.fences || l.on && step.Cause == 0 && opAt(h) == impl.InsFence
		l.satps = l.satps || l.on && next.Satp != h.Satp
		l.traps = l.traps || isOn(ctxOf(h)) && step.Cause != 0
		h = next
	}
	l.turnedOn = l.turnedOn && l.on
	return l
}

// unfenced is the same program with something idle in place of each fence.
func unfenced(b []byte) []byte {
	script := wantScript(b)
	mem := script.Hart.Mem
	for _, page := range []int{0, 5, 6} {
		for at := 64 * page; at < 64*page+64; at += 4 {
			if mem[at] == impl.InsFence {
				copy(mem[at:], ins(impl.InsLi, 0, 0, 0, 0))
			}
		}
	}
	return textOf(script.Hart, script.Picks)
}

// livedCounts tells what disciplined scripts came by, so that none of it is left out by chance.
type livedCounts struct {
	ok, not, differ int
	lived           map[string]int
}

func (n *livedCounts) add(b []byte) {
	n.ok++
	l := lifeOf(b)
	words := map[string]bool{
		"translation on": l.on, "translation turned on": l.turnedOn, "tables changed": l.tables, "fences": l.fences,
		"satp changed": l.satps, "traps": l.traps, "all of it": l.on && l.tables && l.fences && l.satps && l.traps,
		"fences that it needs": !impl.Disciplined(unfenced(b)).Ok,
	}
	for word, came := range words {
		if came {
			n.lived[word]++
		}
	}
}

func (n *livedCounts) check(t *testing.T) {
	t.Helper()
	if n.ok < 1000 || n.not < 300 || n.differ < 50 {
		t.Errorf("%d disciplined scripts, %d others, %d with two runs that differ", n.ok, n.not, n.differ)
	}
	for word, least := range map[string]int{
		"translation on": 1000, "translation turned on": 400, "tables changed": 500, "fences": 500,
		"satp changed": 300, "traps": 500, "all of it": 200, "fences that it needs": 300,
	} {
		if n.lived[word] < least {
			t.Errorf("%s: only %d times", word, n.lived[word])
		}
	}
}

// Promise 12, over programs that fence well, that fence by chance, and over any text.
func TestUnseenGenerated(t *testing.T) {
	d := dice(1212)
	counts := livedCounts{lived: map[string]int{}}
	for range 2500 {
		b := tidyProgram(&d, 20+int(d.below(160)))
		if impl.Disciplined(b).Ok {
			checkUnseen(t, b)
			counts.add(b)
			continue
		}
		counts.not++
		if !sameResult(impl.RunBytes(b, false), impl.RunBytes(b, true)) {
			counts.differ++
		}
	}
	counts.check(t)
	ok := 0
	for i := range 6000 {
		b := someText(&d)
		if i%2 == 0 {
			b = someProgram(&d, int(d.below(60)))
		}
		if impl.Disciplined(b).Ok {
			checkUnseen(t, b)
			ok++
		}
	}
	if ok < 1000 {
		t.Errorf("only %d disciplined scripts", ok)
	}
}

// A script is disciplined up to its first undisciplined step: cut off there it cannot see the caches either.
func TestUnseenUpToTheFirst(t *testing.T) {
	d := dice(1221)
	cut := 0
	for i := range 1500 {
		b := crowdedProgram(&d)
		if i%2 == 0 {
			b = tidyProgram(&d, 100)
		}
		got := impl.Disciplined(b)
		if got.Ok || got.At == 0 {
			continue
		}
		script := wantScript(b)
		b = textOf(script.Hart, script.Picks[:got.At])
		if again := checkDiscipline(t, b); again != (impl.Discipline{Ok: true, At: got.At}) {
			t.Fatalf("text % x: cut off at %d: %+v", b, got.At, again)
		}
		checkUnseen(t, b)
		cut++
	}
	if cut < 500 {
		t.Errorf("only %d scripts were cut off", cut)
	}
}

// Promise 12 at the greatest number of steps.
func TestUnseenAtTwentyThousandSteps(t *testing.T) {
	d := dice(20012)
	ok := 0
	for range 60 {
		b := tidyProgram(&d, 3)
		b[5], b[6] = 0x20, 0x4e
		if impl.Disciplined(b).Ok {
			checkUnseen(t, b)
			ok++
		}
	}
	if ok < 15 {
		t.Errorf("only %d disciplined scripts", ok)
	}
}

// Promise 13, with picks that throw out nothing, the same all the time, all there are, and any.
func TestPicksAreUnseen(t *testing.T) {
	d := dice(1313)
	ok, not := 0, 0
	for i := range 1200 {
		b := tidyProgram(&d, 20+int(d.below(120)))
		if i%4 == 0 {
			b = someProgram(&d, 40)
		}
		got, want := impl.Disciplined(b), impl.RunBytes(b, false)
		start := int64(d.below(256))
		for _, pick := range []func(i int) int64{
			func(int) int64 { return 0 },
			func(int) int64 { return 255 },
			func(int) int64 { return start },
			func(i int) int64 { return (start + int64(i)) % 256 },
			func(int) int64 { return int64(d.below(256)) },
		} {
			other := withPicks(b, pick)
			if again := impl.Disciplined(other); again != got {
				t.Fatalf("text % x: %+v, and with other picks %+v: text % x", b, got, again, other)
			}
			if got.Ok && !sameResult(checkUnseen(t, other), want) {
				t.Fatalf("text % x: other picks give another result: text % x", b, other)
			}
		}
		if got.Ok {
			ok++
		} else {
			not++
		}
	}
	if ok < 500 || not < 200 {
		t.Errorf("%d disciplined scripts and %d others", ok, not)
	}
}

// changeHart has a program that loads from a page, changes the leaf of the page, does one thing more and loads again. The
// window, by which it changes the leaf, is in D ahead of the page, which so has the place 1 there.
func changeHart(between []byte) impl.Hart {
	h := ghostHart(impl.ModeS, slices.Concat(ins(impl.InsLoad, 6, 4, 0, 0), ghostLoad(), ghostChange(), between, ins(impl.InsLoad, 6, 2, 0, 0))...)
	h.Caches = impl.Caches{I: emptyTlb(1, 4), D: emptyTlb(1, 4), P: emptyTlb(1, 4)}
	h.Mem[768], h.Mem[832] = 12, 13
	h.Regs[1] = 13<<10 | fullLeaf
	return h
}

// Promise 14, by the document's example: the last load sees the old page, unless a pick has thrown the leaf out.
func TestCachesAreSeen(t *testing.T) {
	for _, r := range []struct {
		pick int64
		want uint64
	}{{0, 12}, {127, 12}, {128, 12}, {129, 13}, {130, 12}} {
		b := textOf(changeHart(ghostIdle()), []int64{0, 0, 0, 0, r.pick})
		cached, plain := impl.RunBytes(b, false), impl.RunBytes(b, true)
		if cached.Regs[6] != r.want || plain.Regs[6] != 13 {
			t.Errorf("pick %d: %d with caches, %d plain", r.pick, cached.Regs[6], plain.Regs[6])
		}
		if sameResult(cached, plain) != (r.want == 13) {
			t.Errorf("pick %d: the two runs\n%+v\n%+v", r.pick, cached, plain)
		}
		if got := checkDiscipline(t, b); got != (impl.Discipline{Ok: false, At: 4}) {
			t.Errorf("pick %d: %+v", r.pick, got)
		}
	}
	fenced := textOf(changeHart(ins(impl.InsFence, 0, 0, 0, 0)), make([]int64, 5))
	if got := checkDiscipline(t, fenced); got != (impl.Discipline{Ok: true, At: 5}) || checkUnseen(t, fenced).Regs[6] != 13 {
		t.Errorf("with a fence: %+v", got)
	}
}

// wantIdle is promise 16: as translation is on at no step, there is nothing to see.
func wantIdle(t *testing.T, b []byte) {
	t.Helper()
	n := int64(len(wantScript(b).Picks))
	if got := checkDiscipline(t, b); got != (impl.Discipline{Ok: true, At: n}) {
		t.Fatalf("text % x: %+v", b, got)
	}
	checkUnseen(t, b)
}

// idleProgram changes and fences tables too, but never leaves mode M, or never has a scheme. Its tables are at hand.
func idleProgram(d *dice, machine bool) []byte {
	script := wantScript(tidyProgram(d, 20+int(d.below(100))))
	h := script.Hart
	if machine {
		h.Mode, h.Pc = impl.ModeM, 320
		copy(h.Mem, ins(impl.InsRet, 0, 0, 0, 1))
		return textOf(h, script.Picks)
	}
	h.Mode, h.Pc, h.Satp = int64(d.below(3)), 320, d.next()>>4
	h.Regs[5], h.Regs[6], h.Regs[7] = 0, h.Regs[6]<<4>>4, h.Regs[7]<<4>>4
	copy(h.Mem, slices.Concat(ins(impl.InsSetRet, 5, 0, int(d.below(3)), 0), ins(impl.InsRet, 0, 0, 0, 80)))
	return textOf(h, script.Picks)
}

func TestNothingToSeeWhenOff(t *testing.T) {
	d := dice(1616)
	causes, fences := map[int64]int{}, 0
	for i := range 1000 {
		b := idleProgram(&d, i%2 == 0)
		script := wantScript(b)
		wantIdle(t, b)
		h := script.Hart
		for _, pick := range script.Picks {
			if isOn(ctxOf(h)) {
				t.Fatalf("text % x: translation comes on", b)
			}
			if opAt(h) == impl.InsFence {
				fences++
			}
			h = impl.StepHart(h, false, pick).Hart
			causes[h.Cause]++
		}
	}
	if fences < 500 || causes[impl.CauseCallM] < 100 || causes[impl.CauseIllegal] < 100 {
		t.Errorf("%d fences, causes %v", fences, causes)
	}
	for _, b := range [][]byte{nil, {}, {1, 2, 3}, {0, 0, 0, 0, 2, 9}, {0, 0, 0, 0, 2, 0xff, 0xff}, {0, 0, 0, 0, 0, 0x20, 0x4e}} {
		wantIdle(t, b)
	}
}
