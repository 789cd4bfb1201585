package tests

import (
	"bytes"
	"math"
	"math/big"
	"testing"

	"loop.example/s0051/impl"
)

// The tests of promise 1: ReadMem and WriteMem are exactly chapter 1.

var okWidths = []int64{1, 2, 4, 8}

// Besides the plain wrong widths: ones that a narrower integer would take for an Ok one.
var wrongWidths = []int64{
	0, 3, 5, 6, 7, 9, 10, 12, 15, 16, 32, 64, 128,
	-1, -2, -4, -8, -3, -255, -252, math.MinInt64, math.MinInt64 + 1, math.MinInt64 + 8,
	1<<8 + 1, 1<<8 + 8, 1<<16 + 2, 1<<32 + 1, 1<<32 + 4, 1 << 62, math.MaxInt64 - 1, math.MaxInt64,
}

var someValues = []uint64{0, 1, 0xff, 0x100, 0x8000, 0x0123456789abcdef, 0xfedcba9876543210, 1 << 63, math.MaxUint64}

// numbered makes a memory in which every byte within 251 places is another, and none is 0.
func numbered(size int) []byte {
	mem := make([]byte, size)
	for i := range mem {
		mem[i] = byte(1 + i%251)
	}
	return mem
}

// someAddrs: the small ones all around the end of the memory, and the great ones that wrap or change sign.
func someAddrs(size int) []uint64 {
	var out []uint64
	for a := uint64(0); a <= uint64(size)+9; a++ {
		out = append(out, a)
	}
	for d := range uint64(20) {
		out = append(out, math.MaxUint64-d, 1<<63-d, 1<<63+d, 1<<32+d, 1<<32-1-d, 1<<31+d, 1<<16+d)
	}
	return out
}

// placeOk is chapter 1's condition in whole numbers that cannot wrap.
func placeOk(size int, addr uint64, width int64) bool {
	if width != 1 && width != 2 && width != 4 && width != 8 {
		return false
	}
	last := new(big.Int).Sub(big.NewInt(int64(size)), big.NewInt(width))
	return new(big.Int).SetUint64(addr).Cmp(last) <= 0
}

// wantRead makes the number from the highest byte down.
func wantRead(mem []byte, addr uint64, width int64) impl.ReadRes {
	if !placeOk(len(mem), addr, width) {
		return impl.ReadRes{}
	}
	val := uint64(0)
	for i := width - 1; i >= 0; i-- {
		val = val*256 + uint64(mem[addr+uint64(i)])
	}
	return impl.ReadRes{Ok: true, Val: val}
}

func wantWrite(mem []byte, addr uint64, width int64, val uint64) []byte {
	out := bytes.Clone(mem)
	if !placeOk(len(mem), addr, width) {
		return out
	}
	for i := range uint64(width) {
		out[addr+i] = byte(val % 256)
		val /= 256
	}
	return out
}

// checkPlace holds one read and the writes at one place against chapter 1.
func checkPlace(t *testing.T, mem []byte, addr uint64, width int64) {
	t.Helper()
	before := bytes.Clone(mem)
	if got, want := impl.ReadMem(mem, addr, width), wantRead(before, addr, width); got != want {
		t.Errorf("len %d: read of %d at %#x: %+v, want %+v", len(mem), width, addr, got, want)
	}
	for _, val := range someValues {
		got, want := impl.WriteMem(mem, addr, width, val), wantWrite(before, addr, width, val)
		if !bytes.Equal(got, want) {
			t.Errorf("len %d: write of %d at %#x, %#x: % x, want % x", len(mem), width, addr, val, got, want)
		}
	}
	if !bytes.Equal(mem, before) {
		t.Fatalf("len %d: width %d at %#x wrote into its argument", len(mem), width, addr)
	}
}

func TestMemoryEveryPlaceOfSmallMemories(t *testing.T) {
	for size := range 19 {
		mem := numbered(size)
		for _, addr := range someAddrs(size) {
			for _, width := range okWidths {
				checkPlace(t, mem, addr, width)
			}
			for _, width := range wrongWidths {
				checkPlace(t, mem, addr, width)
			}
		}
	}
}

func TestMemoryEdgesOfGreatMemories(t *testing.T) {
	for _, size := range []int{impl.PageBytes, 255, 256, 257, 1024, impl.PageMax * impl.PageBytes, 1<<16 + 3} {
		mem := numbered(size)
		for _, width := range okWidths {
			last := uint64(size) - uint64(width)
			for _, addr := range []uint64{0, 1, 3, 63, last - 1, last, last + 1, uint64(size) - 1, uint64(size), uint64(size) + 1, -uint64(width), math.MaxUint64} {
				checkPlace(t, mem, addr, width)
			}
		}
	}
}

func TestMemoryReadRows(t *testing.T) {
	mem := []byte{0x10, 0x21, 0x32, 0x43, 0x54, 0x65, 0x76, 0x87, 0x98, 0xa9, 0xba, 0xfb}
	rows := []struct {
		addr  uint64
		width int64
		want  impl.ReadRes
	}{
		{0, 1, impl.ReadRes{Ok: true, Val: 0x10}},
		{11, 1, impl.ReadRes{Ok: true, Val: 0xfb}},
		{12, 1, impl.ReadRes{}},
		{0, 2, impl.ReadRes{Ok: true, Val: 0x2110}},
		{10, 2, impl.ReadRes{Ok: true, Val: 0xfbba}},
		{11, 2, impl.ReadRes{}},
		{0, 4, impl.ReadRes{Ok: true, Val: 0x43322110}},
		{8, 4, impl.ReadRes{Ok: true, Val: 0xfbbaa998}},
		{9, 4, impl.ReadRes{}},
		{0, 8, impl.ReadRes{Ok: true, Val: 0x8776655443322110}},
		{4, 8, impl.ReadRes{Ok: true, Val: 0xfbbaa99887766554}},
		{5, 8, impl.ReadRes{}},
		{1, 2, impl.ReadRes{Ok: true, Val: 0x3221}},
		{3, 4, impl.ReadRes{Ok: true, Val: 0x76655443}},
		{1, 8, impl.ReadRes{Ok: true, Val: 0x9887766554433221}},
		{0, 0, impl.ReadRes{}},
		{0, 3, impl.ReadRes{}},
		{0, 5, impl.ReadRes{}},
		{0, -8, impl.ReadRes{}},
		{math.MaxUint64, 1, impl.ReadRes{}},
		{math.MaxUint64 - 1, 2, impl.ReadRes{}},
		{math.MaxUint64 - 3, 8, impl.ReadRes{}},
		{math.MaxUint64 - 7, 8, impl.ReadRes{}},
	}
	for _, r := range rows {
		if got := impl.ReadMem(mem, r.addr, r.width); got != r.want {
			t.Errorf("read of %d at %#x: %+v, want %+v", r.width, r.addr, got, r.want)
		}
	}
}

func TestMemoryEmptyAndTooShort(t *testing.T) {
	for _, mem := range [][]byte{nil, {}, {1}, {1, 2, 3}, {1, 2, 3, 4, 5, 6, 7}} {
		for _, width := range okWidths {
			if int(width) <= len(mem) {
				continue
			}
			for _, addr := range someAddrs(len(mem)) {
				if got := impl.ReadMem(mem, addr, width); got != (impl.ReadRes{}) {
					t.Errorf("len %d: read of %d at %#x: %+v", len(mem), width, addr, got)
				}
				if got := impl.WriteMem(mem, addr, width, math.MaxUint64); !bytes.Equal(got, mem) {
					t.Errorf("len %d: write of %d at %#x: % x", len(mem), width, addr, got)
				}
			}
		}
	}
}

func TestMemoryWrittenIsReadBack(t *testing.T) {
	mem := numbered(3 * impl.PageBytes)
	for _, width := range okWidths {
		for addr := uint64(0); addr <= uint64(len(mem))-uint64(width); addr++ {
			for _, val := range someValues {
				out := impl.WriteMem(mem, addr, width, val)
				kept := val << (64 - 8*width) >> (64 - 8*width)
				if got := impl.ReadMem(out, addr, width); !got.Ok || got.Val != kept {
					t.Fatalf("width %d at %d: wrote %#x, read back %+v", width, addr, val, got)
				}
				end := addr + uint64(width)
				if len(out) != len(mem) || !bytes.Equal(out[:addr], mem[:addr]) || !bytes.Equal(out[end:], mem[end:]) {
					t.Fatalf("width %d at %d: a byte outside of the place changed", width, addr)
				}
			}
		}
	}
}

// The bytes behind a slice's length are no part of the memory, though the slice could reach them.
func TestMemoryEndsAtItsLength(t *testing.T) {
	back := numbered(32)
	before := bytes.Clone(back)
	for _, size := range []int{0, 3, 8, 12} {
		for _, addr := range someAddrs(size) {
			for _, width := range okWidths {
				checkPlace(t, back[:size], addr, width)
			}
		}
	}
	if !bytes.Equal(back, before) {
		t.Errorf("bytes behind the argument's length changed")
	}
}

// fill writes over all that a slice can reach, also behind its length.
func fill(b []byte, with byte) {
	b = b[:cap(b)]
	for i := range b {
		b[i] = with
	}
}

func TestMemoryAnswersShareNothing(t *testing.T) {
	type place struct {
		addr  uint64
		width int64
	}
	places := []place{{0, 1}, {4, 4}, {8, 8}, {15, 1}, {16, 1}, {9, 8}, {0, 0}, {0, 3}, {0, -1}, {math.MaxUint64, 1}, {math.MaxUint64 - 3, 8}}
	for _, size := range []int{0, 1, 16} {
		for _, p := range places {
			back := numbered(32)
			before := bytes.Clone(back)
			first := impl.WriteMem(back[:size], p.addr, p.width, 0x7777777777777777)
			second := impl.WriteMem(back[:size], p.addr, p.width, 0x7777777777777777)
			want := bytes.Clone(second)
			fill(first, 0xee)
			if !bytes.Equal(back, before) {
				t.Errorf("len %d, width %d at %#x: the answer shares memory with the argument", size, p.width, p.addr)
			}
			if !bytes.Equal(second, want) {
				t.Errorf("len %d, width %d at %#x: two answers share memory", size, p.width, p.addr)
			}
			fill(back, 0xdd)
			if !bytes.Equal(second, want) {
				t.Errorf("len %d, width %d at %#x: the answer changed with the argument", size, p.width, p.addr)
			}
		}
	}
}
