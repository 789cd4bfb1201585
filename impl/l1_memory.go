package impl

const (
	PageBytes = 64
	PageMax   = 64
)

type ReadRes struct {
	Ok  bool
	Val uint64
}

// memory holds the bytes of the addresses 0..len-1. Its reads and writes do
// not check their place: whoever calls them has asked holds first.
type memory []byte

// has takes the count from the length, as addr + count could wrap.
func (m memory) has(addr uint64, count uint64) bool {
	size := uint64(len(m))
	return count <= size && addr <= size-count
}

func (m memory) holds(addr uint64, width int64) bool {
	switch width {
	case 1, 2, 4, 8:
		return m.has(addr, uint64(width))
	}
	return false
}

func (m memory) read1(addr uint64) uint64 {
	return uint64(m[addr])
}

func (m memory) read2(addr uint64) uint64 {
	return m.read1(addr) | m.read1(addr+1)<<8
}

func (m memory) read4(addr uint64) uint64 {
	return m.read2(addr) | m.read2(addr+2)<<16
}

func (m memory) read8(addr uint64) uint64 {
	return m.read4(addr) | m.read4(addr+4)<<32
}

func (m memory) write1(addr uint64, val uint64) {
	m[addr] = byte(val)
}

func (m memory) write2(addr uint64, val uint64) {
	m.write1(addr, val)
	m.write1(addr+1, val>>8)
}

func (m memory) write4(addr uint64, val uint64) {
	m.write2(addr, val)
	m.write2(addr+2, val>>16)
}

func (m memory) write8(addr uint64, val uint64) {
	m.write4(addr, val)
	m.write4(addr+4, val>>32)
}

// copied makes the new memory that every answer must be.
func (m memory) copied() memory {
	out := make(memory, len(m))
	copy(out, m)
	return out
}

func ReadMem(mem []byte, addr uint64, width int64) ReadRes {
	m := memory(mem)
	if !m.holds(addr, width) {
		return ReadRes{}
	}
	switch width {
	case 1:
		return ReadRes{Ok: true, Val: m.read1(addr)}
	case 2:
		return ReadRes{Ok: true, Val: m.read2(addr)}
	case 4:
		return ReadRes{Ok: true, Val: m.read4(addr)}
	default:
		return ReadRes{Ok: true, Val: m.read8(addr)}
	}
}

func WriteMem(mem []byte, addr uint64, width int64, val uint64) []byte {
	out := memory(mem).copied()
	if !out.holds(addr, width) {
		return out
	}
	switch width {
	case 1:
		out.write1(addr, val)
	case 2:
		out.write2(addr, val)
	case 4:
		out.write4(addr, val)
	default:
		out.write8(addr, val)
	}
	return out
}
