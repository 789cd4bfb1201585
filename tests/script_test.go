package tests

import (
	"bytes"
	"math"
	"slices"
	"testing"

	"loop.example/s0051/impl"
)

// The tests of promise 9, part four: every text of bytes is a script of a valid hart.

// headText is the fixed part of a script, byte by byte other than 0 where that can be, for n steps and so many runs.
func headText(n int, runs byte) []byte {
	b := make([]byte, 88)
	for i := range b {
		b[i] = byte(3*i + 1)
	}
	b[3], b[4], b[5], b[6] = 1, 1, byte(n), byte(n/256)
	b[30] = 0x85
	b[87] = runs
	return b
}

func runText(addr int, bytes ...byte) []byte {
	return append([]byte{byte(addr), byte(addr / 256), byte(len(bytes))}, bytes...)
}

func TestScriptRow(t *testing.T) {
	b := []byte{7, 0xf8, 0x0a, 2, 0x0e, 3, 0}
	b = append(b, 1, 2, 3, 4, 5, 6, 7, 8)
	b = append(b, 0xff, 0, 0, 0, 0, 0, 0, 9)
	b = append(b, 1, 0, 0, 0, 0, 0x10, 0, 0x80)
	for i := range 56 {
		b = append(b, byte(i+1))
	}
	b = append(b, 2)
	b = append(b, runText(190, 11, 12, 13)...)
	b = append(b, runText(189, 21, 22)...)
	b = append(b, 255, 0, 128, 77)
	want := impl.Hart{Mem: make([]byte, 192), Pc: 0x0807060504030201, Mode: impl.ModeM, Sum: true, Mxr: true, Satp: 8<<60 | 1<<44 | 1, Tvec: 0x09000000000000fc, Emode: impl.ModeM}
	want.Regs = []uint64{0, 0x0807060504030201, 0x100f0e0d0c0b0a09, 0x1817161514131211, 0x201f1e1d1c1b1a19, 0x2827262524232221, 0x302f2e2d2c2b2a29, 0x3837363534333231}
	want.Mem[189], want.Mem[190], want.Mem[191] = 21, 22, 12
	want.Caches = impl.Caches{I: emptyTlb(8, 2), D: emptyTlb(1, 3), P: emptyTlb(4, 3)}
	if got := checkScript(t, b); !sameScript(got, impl.Script{Hart: want, Picks: []int64{255, 0, 128}}) {
		t.Errorf("%+v", got)
	}
}

// A text that ends early goes on with zeros, wherever it ends.
func TestScriptEveryLength(t *testing.T) {
	full := headText(6, 3)
	full = append(full, runText(120, 1, 2, 3, 4, 5, 6, 7, 8, 9)...)
	full = append(full, runText(126, 91, 92, 93)...)
	full = append(full, runText(121, 81, 82)...)
	full = append(full, 1, 127, 128, 255, 5, 6)
	full = append(full, 99, 98, 97)
	for size := range len(full) + 1 {
		got := checkScript(t, full[:size])
		zeros := append(bytes.Clone(full[:size]), make([]byte, 300)...)
		if !sameScript(got, checkScript(t, zeros)) {
			t.Errorf("%d bytes and the same with zeros behind", size)
		}
	}
	if !sameScript(impl.DecodeScript(full), impl.DecodeScript(full[:len(full)-3])) {
		t.Error("bytes after the picks are not ignored")
	}
	if !sameScript(impl.DecodeScript(nil), impl.DecodeScript([]byte{})) {
		t.Error("none and nil")
	}
}

// A run that is cut off still has its length: the zeros go over what an earlier run wrote.
func TestScriptRunCutOff(t *testing.T) {
	b := append(headText(2, 2), runText(0, 1, 2, 3, 4)...)
	b = append(b, 1, 0, 2, 9)
	if got := checkScript(t, b); !bytes.Equal(got.Hart.Mem[:5], []byte{1, 9, 0, 4, 0}) {
		t.Errorf("% x", got.Hart.Mem)
	}
	b = append(headText(2, 255), runText(0, 1, 2, 3, 4)...)
	if got := checkScript(t, b); !bytes.Equal(got.Hart.Mem[:5], []byte{1, 2, 3, 4, 0}) {
		t.Errorf("runs of no length: % x", got.Hart.Mem)
	}
}

func TestScriptEveryByte(t *testing.T) {
	for i := range 88 {
		for y := range 256 {
			b := headText(3, 2)
			b = append(b, runText(63, 1, 2, 3, 4, 5)...)
			b = append(b, runText(65, 7, 8, 9)...)
			b = append(b, 200, 100, 50)
			b[i] = byte(y)
			checkScript(t, b)
		}
	}
}

func TestScriptShapesAndModes(t *testing.T) {
	for y := range 256 {
		b := headText(0, 0)
		b[0], b[1], b[2], b[3], b[4] = byte(y), byte(y+1), byte(y+2), byte(y), byte(y)
		h := checkScript(t, b).Hart
		for i, tlb := range []impl.Tlb{h.Caches.I, h.Caches.D, h.Caches.P} {
			if tlb.Sets != 1<<((y+i)%4) || tlb.Ways != int64(1+(y+i)%256/4%4) {
				t.Errorf("byte %d: cache %d has %d sets of %d", y, i, tlb.Sets, tlb.Ways)
			}
		}
		if len(h.Mem) != 64*(1+y%64) || h.Mode != []int64{0, 1, 2, 1}[y%4] || h.Emode != h.Mode || h.Sum != (y&4 != 0) || h.Mxr != (y&8 != 0) {
			t.Errorf("byte %d: %d bytes, mode %d, emode %d, %v, %v", y, len(h.Mem), h.Mode, h.Emode, h.Sum, h.Mxr)
		}
	}
}

func TestScriptSatpAndTvec(t *testing.T) {
	for scheme := range 16 {
		for _, rest := range []byte{0, 1, 15} {
			b := headText(1, 0)
			b[30] = byte(scheme<<4) | rest
			want := uint64(0)
			if scheme == 0 || scheme == 8 {
				want = numberOf(b, 23, 8)
			}
			if got := checkScript(t, b).Hart.Satp; got != want {
				t.Errorf("scheme %d: %#x, want %#x", scheme, got, want)
			}
		}
	}
	for low := range byte(8) {
		b := headText(1, 0)
		b[15] = 0xf0 | low
		if got := checkScript(t, b).Hart.Tvec; got != numberOf(b, 15, 8)&^3 {
			t.Errorf("tvec ends in %d: %#x", low, got)
		}
	}
}

func TestScriptSteps(t *testing.T) {
	for n, want := range map[int]int{0: 0, 1: 1, 255: 255, 256: 256, 19999: 19999, 20000: 20000, 20001: 20000, 40000: 20000, 65535: 20000} {
		b := headText(n, 1)
		b = append(b, runText(3, 1, 2)...)
		for i := range 30000 {
			b = append(b, byte(i*7/3))
		}
		got := checkScript(t, b)
		if len(got.Picks) != want {
			t.Errorf("%d steps: %d picks", n, len(got.Picks))
		}
		for i, pick := range got.Picks {
			if pick != int64(byte(i*7/3)) {
				t.Fatalf("%d steps: pick %d is %d", n, i, pick)
			}
		}
		if short := checkScript(t, b[:100]); len(short.Picks) != want || want > 20 && short.Picks[want-1] != 0 {
			t.Errorf("%d steps of a short text: %d picks", n, len(short.Picks))
		}
	}
}

// Runs that write over each other, over the end of Mem and at the highest addresses, of every length.
func TestScriptRuns(t *testing.T) {
	long := bytes.Repeat([]byte{5, 6, 7}, 85)
	for _, addr := range []int{0, 1, 63, 64, 100, 127, 128, 129, 4095, 4096, 32768, 65280, 65281, 65534, 65535} {
		for _, size := range []int{0, 1, 2, 27, 28, 64, 254, 255} {
			b := append(headText(2, 3), runText(addr, long[:size]...)...)
			b = append(b, runText(addr+1, 1)...)
			b = append(b, runText(126, 31, 32, 33)...)
			b = append(b, 201, 202)
			got := checkScript(t, b)
			if !slices.Equal(got.Picks, []int64{201, 202}) || got.Hart.Mem[126] != 31 || got.Hart.Mem[127] != 32 {
				t.Errorf("a run of %d at %d: picks %v", size, addr, got.Picks)
			}
		}
	}
	b := append(headText(1, 255), bytes.Repeat(runText(9, long...), 255)...)
	if got := checkScript(t, append(b, 77)); got.Picks[0] != 77 || got.Hart.Mem[9] != 5 || got.Hart.Mem[127] != 6 {
		t.Errorf("as many and as long runs as there can be: %v", got.Picks)
	}
	whole := headText(1, 20)
	whole[3] = 63
	for addr := 0; addr < 4096; addr += 240 {
		whole = append(whole, runText(addr, bytes.Repeat([]byte{9}, 240)...)...)
	}
	if got := checkScript(t, whole); bytes.Count(got.Hart.Mem, []byte{9}) != 4096 {
		t.Error("a memory that is written in full")
	}
}

func TestScriptsGenerated(t *testing.T) {
	d := dice(5005)
	for size := range 3000 {
		b := make([]byte, size%500)
		for i := range b {
			b[i] = byte(d.next() >> 20)
		}
		if len(b) > 6 {
			b[6] %= 4
		}
		if len(b) > 87 && d.below(4) > 0 {
			b[87] %= 4
			for at := 88; at+1 < len(b); at += 16 {
				b[at] = byte(d.below(3))
			}
		}
		checkScript(t, b)
	}
}

func TestScriptsShareNothing(t *testing.T) {
	text := append(headText(5, 1), runText(0, 1, 2, 3)...)
	b := append(make([]byte, 0, 500), text...)
	want := wantScript(text)
	for spoiled := range 3 {
		got := impl.DecodeScript(b)
		lists := []*impl.Tlb{&got.Hart.Caches.I, &got.Hart.Caches.D, &got.Hart.Caches.P}
		spoilHart(got.Hart, true, true, *lists[spoiled])
		for i := range got.Picks {
			got.Picks[i] = math.MinInt64
		}
		got.Hart.Mem, got.Hart.Regs, got.Picks = want.Hart.Mem, want.Hart.Regs, want.Picks
		*lists[spoiled] = []impl.Tlb{want.Hart.Caches.I, want.Hart.Caches.D, want.Hart.Caches.P}[spoiled]
		if !sameScript(got, want) {
			t.Error("two lists of the answer share memory")
		}
		if !bytes.Equal(b, text) || !bytes.Equal(b[:cap(b)][len(b):], make([]byte, cap(b)-len(b))) {
			t.Error("the answer shares memory with the text")
		}
	}
}
