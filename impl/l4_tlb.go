package impl

const (
	SetsMax = 8
	WaysMax = 4
	AsidMax = 65535
	PickMax = 255
)

type Entry struct {
	Valid  bool
	Level  int64
	Tag    uint64
	Asid   uint64
	Global bool
	Pte    uint64
}

type Tlb struct {
	Sets    int64
	Ways    int64
	Entries []Entry
}

type Hit struct {
	Found bool
	Index int64
	Level int64
	Pte   uint64
}

type Fence struct {
	HasVa   bool
	Va      uint64
	HasAsid bool
	Asid    uint64
}

type Caches struct {
	I Tlb
	D Tlb
	P Tlb
}

type TlbTrans struct {
	Cause  int64
	Pa     uint64
	Caches Caches
}

func ValidTlb(t Tlb, pointers bool) bool { return false }

func Lookup(t Tlb, va uint64, asid uint64) Hit { return Hit{} }

func Insert(t Tlb, e Entry, pick int64) Tlb { return Tlb{} }

func Flush(t Tlb, f Fence) Tlb { return Tlb{} }

func TlbTranslate(mem []byte, c Ctx, k Caches, kind int64, va uint64, pick int64) TlbTrans {
	return TlbTrans{}
}
