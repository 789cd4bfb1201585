package impl

const (
	SetsMax = 8
	WaysMax = 4
	AsidMax = 65535
	PickMax = 255
)

const (
	addrBits = signBit + 1
	asidLow  = 44
	asidBits = 16
)

type Entry struct {
	Valid  bool
	Level  int64
	Tag    uint64
	Asid   uint64
	Global bool
	Pte    uint64
}

type Tlb struct {
	Sets    int64
	Ways    int64
	Entries []Entry
}

type Hit struct {
	Found bool
	Index int64
	Level int64
	Pte   uint64
}

type Fence struct {
	HasVa   bool
	Va      uint64
	HasAsid bool
	Asid    uint64
}

type Caches struct {
	I Tlb
	D Tlb
	P Tlb
}

type TlbTrans struct {
	Cause  int64
	Pa     uint64
	Caches Caches
}

// tagMask has as many bits as a tag of this level; it is its greatest tag too.
func tagMask(level int64) uint64 {
	return lowBits(addrBits) >> (placeBits + indexBits*level)
}

func (va virtAddr) tag(level int64) uint64 {
	return uint64(va>>(placeBits+indexBits*level)) & tagMask(level)
}

func asidOf(satp uint64) uint64 {
	return satp >> asidLow & lowBits(asidBits)
}

// reach tells for which addresses an entry speaks. Look-ups and fences ask for
// nothing else, so they need not know what the entry holds.
type reach struct {
	level  int64
	tag    uint64
	asid   uint64
	global bool
}

func reachOf(pte tableEntry, level int64, va virtAddr, asid uint64) reach {
	return reach{level: level, tag: va.tag(level), asid: asid, global: pte.hasAny(BitG)}
}

func (r reach) spans(va virtAddr) bool {
	return r.tag == va.tag(r.level)
}

func (r reach) fits(va virtAddr, asid uint64) bool {
	return r.spans(va) && (r.global || r.asid == asid)
}

// coverage says of an entry whether a fence covers it.
type coverage func(r reach) bool

func coverageOf(f Fence) coverage {
	va := virtAddr(f.Va)
	if f.HasVa && !va.canonical() {
		return func(reach) bool { return false }
	}
	return func(r reach) bool {
		overVa := !f.HasVa || r.spans(va)
		ofAsid := !f.HasAsid || !r.global && r.asid == f.Asid
		return overVa && ofAsid
	}
}

// Leaves and pointers are types of their own, so that no cache can mix them.
type leafPte tableEntry

func (p leafPte) goodAt(level int64) bool {
	return tableEntry(p).kind(level) == PteLeaf
}

type pointerPte tableEntry

func (p pointerPte) goodAt(level int64) bool {
	return tableEntry(p).kind(level) == PtePointer
}

func (p pointerPte) table() uint64 {
	return tableEntry(p).ppn()
}

type keepable interface {
	leafPte | pointerPte
	goodAt(level int64) bool
}

// slot is one place of a cache; an empty one is the zero slot.
type slot[K keepable] struct {
	reach
	used bool
	pte  K
}

// slotOf answers false for an Entry that a cache of this kind may not hold anywhere.
func slotOf[K keepable](e Entry) (slot[K], bool) {
	if !e.Valid || !knownLevel(e.Level) || e.Tag > tagMask(e.Level) || e.Asid > AsidMax {
		return slot[K]{}, false
	}
	if e.Global != tableEntry(e.Pte).hasAny(BitG) || !K(e.Pte).goodAt(e.Level) {
		return slot[K]{}, false
	}
	at := reach{level: e.Level, tag: e.Tag, asid: e.Asid, global: e.Global}
	return slot[K]{reach: at, used: true, pte: K(e.Pte)}, true
}

func (s slot[K]) entry() Entry {
	return Entry{Valid: s.used, Level: s.level, Tag: s.tag, Asid: s.asid, Global: s.global, Pte: uint64(s.pte)}
}

// cache is set-associative: the slots of the set s begin at s * ways.
type cache[K keepable] struct {
	sets  int64
	ways  int64
	slots []slot[K]
}

func knownShape(t Tlb) bool {
	switch t.Sets {
	case 1, 2, 4, SetsMax:
		return t.Ways >= 1 && t.Ways <= WaysMax && int64(len(t.Entries)) == t.Sets*t.Ways
	}
	return false
}

// cacheOf answers false for a Tlb that is not valid as a cache of this kind.
// The cache shares nothing with t, so it may be changed in place.
func cacheOf[K keepable](t Tlb) (cache[K], bool) {
	if !knownShape(t) {
		return cache[K]{}, false
	}
	c := cache[K]{sets: t.Sets, ways: t.Ways, slots: make([]slot[K], len(t.Entries))}
	for i, e := range t.Entries {
		if e == (Entry{}) {
			continue
		}
		s, good := slotOf[K](e)
		if !good || c.setOf(s.tag) != int64(i)/c.ways {
			return cache[K]{}, false
		}
		c.slots[i] = s
	}
	return c, true
}

func (c *cache[K]) tlb() Tlb {
	entries := make([]Entry, len(c.slots))
	for i, s := range c.slots {
		entries[i] = s.entry()
	}
	return Tlb{Sets: c.sets, Ways: c.ways, Entries: entries}
}

func (c *cache[K]) setOf(tag uint64) int64 {
	return int64(tag % uint64(c.sets))
}

// find goes through the levels upwards, as the lowest that fits is wanted; all
// entries of one level that could fit stand in one set.
func (c *cache[K]) find(va virtAddr, asid uint64) (int64, bool) {
	for level := range int64(topLevel + 1) {
		first := c.setOf(va.tag(level)) * c.ways
		for i := first; i < first+c.ways; i++ {
			s := &c.slots[i]
			if s.used && s.level == level && s.fits(va, asid) {
				return i, true
			}
		}
	}
	return 0, false
}

func (c *cache[K]) insert(s slot[K], pick int64) {
	first := c.setOf(s.tag) * c.ways
	for i := first; i < first+c.ways; i++ {
		if !c.slots[i].used {
			c.slots[i] = s
			return
		}
	}
	c.slots[first+pick%c.ways] = s
}

func (c *cache[K]) flush(covered coverage) {
	for i, s := range c.slots {
		if s.used && covered(s.reach) {
			c.slots[i] = slot[K]{}
		}
	}
}

// drop empties the slot of this number, counted round and round.
func (c *cache[K]) drop(number int64) {
	c.slots[number%int64(len(c.slots))] = slot[K]{}
}

// keep inserts what a walk for va has read at this level.
func (c *cache[K]) keep(pte K, level int64, va virtAddr, asid uint64, pick int64) {
	at := reachOf(tableEntry(pte), level, va, asid)
	c.insert(slot[K]{reach: at, used: true, pte: pte}, pick)
}

func hitIn[K keepable](t Tlb, va uint64, asid uint64) (Hit, bool) {
	c, valid := cacheOf[K](t)
	if !valid {
		return Hit{}, false
	}
	i, found := c.find(virtAddr(va), asid)
	if !found {
		return Hit{}, true
	}
	s := c.slots[i]
	return Hit{Found: true, Index: i, Level: s.level, Pte: uint64(s.pte)}, true
}

func insertedIn[K keepable](t Tlb, e Entry, pick int64) (Tlb, bool) {
	c, valid := cacheOf[K](t)
	s, good := slotOf[K](e)
	if !valid || !good {
		return Tlb{}, false
	}
	c.insert(s, pick)
	return c.tlb(), true
}

func flushedIn[K keepable](t Tlb, covered coverage) (Tlb, bool) {
	c, valid := cacheOf[K](t)
	if !valid {
		return Tlb{}, false
	}
	c.flush(covered)
	return c.tlb(), true
}

func copiedTlb(t Tlb) Tlb {
	entries := make([]Entry, len(t.Entries))
	copy(entries, t.Entries)
	return Tlb{Sets: t.Sets, Ways: t.Ways, Entries: entries}
}

func knownPick(pick int64) bool {
	return pick >= 0 && pick <= PickMax
}

// cacheSet is the caches of a hart; it can only be valid, and changes in place.
type cacheSet struct {
	fetch cache[leafPte]
	data  cache[leafPte]
	upper cache[pointerPte]
}

func cacheSetOf(k Caches) (cacheSet, bool) {
	fetch, fetchValid := cacheOf[leafPte](k.I)
	data, dataValid := cacheOf[leafPte](k.D)
	upper, upperValid := cacheOf[pointerPte](k.P)
	if !fetchValid || !dataValid || !upperValid {
		return cacheSet{}, false
	}
	return cacheSet{fetch: fetch, data: data, upper: upper}, true
}

func (k *cacheSet) caches() Caches {
	return Caches{I: k.fetch.tlb(), D: k.data.tlb(), P: k.upper.tlb()}
}

func (k *cacheSet) flush(covered coverage) {
	k.fetch.flush(covered)
	k.data.flush(covered)
	k.upper.flush(covered)
}

func (k *cacheSet) drop(number int64) {
	k.fetch.drop(number)
	k.data.drop(number)
	k.upper.drop(number)
}

func (k *cacheSet) leaves(kind int64) *cache[leafPte] {
	if kind == KindFetch {
		return &k.fetch
	}
	return &k.data
}

// walkOn begins behind the lowest pointer that is kept for va, without asking
// whether it still stands in memory.
func (k *cacheSet) walkOn(src entrySource, satp uint64, va virtAddr) (walked, error) {
	i, found := k.upper.find(va, asidOf(satp))
	if !found {
		return walkRoot(src, satp, va)
	}
	s := k.upper.slots[i]
	return walkFrom(src, s.pte.table(), s.level-1, va)
}

// walkAndKeep is for an address of which the cache of leaves knows nothing. The
// pointers are kept even when the walk meets a fault behind them.
func (k *cacheSet) walkAndKeep(src entrySource, c Ctx, kind int64, va virtAddr, pick int64) (uint64, error) {
	asid := asidOf(c.Satp)
	w, fault := k.walkOn(src, c.Satp, va)
	for _, r := range w.pointers() {
		k.upper.keep(pointerPte(r.Val), r.Level, va, asid, pick)
	}
	if fault != nil {
		return 0, fault
	}
	pa, fault := throughLeaf(w.leaf, w.level, c, kind, va)
	if fault != nil {
		return 0, fault
	}
	k.leaves(kind).keep(leafPte(w.leaf), w.level, va, asid, pick)
	return pa, nil
}

func (k *cacheSet) phys(src entrySource, c Ctx, kind int64, va virtAddr, pick int64) (uint64, error) {
	if !translates(c) {
		return uint64(va), nil
	}
	if !va.canonical() {
		return 0, pageFault{}
	}
	leaves := k.leaves(kind)
	i, found := leaves.find(va, asidOf(c.Satp))
	if !found {
		return k.walkAndKeep(src, c, kind, va, pick)
	}
	s := leaves.slots[i]
	return throughLeaf(tableEntry(s.pte), s.level, c, kind, va)
}

func ValidTlb(t Tlb, pointers bool) bool {
	if pointers {
		_, valid := cacheOf[pointerPte](t)
		return valid
	}
	_, valid := cacheOf[leafPte](t)
	return valid
}

func Lookup(t Tlb, va uint64, asid uint64) Hit {
	if hit, valid := hitIn[leafPte](t, va, asid); valid {
		return hit
	}
	hit, _ := hitIn[pointerPte](t, va, asid)
	return hit
}

func Insert(t Tlb, e Entry, pick int64) Tlb {
	if !knownPick(pick) {
		return copiedTlb(t)
	}
	if out, done := insertedIn[leafPte](t, e, pick); done {
		return out
	}
	if out, done := insertedIn[pointerPte](t, e, pick); done {
		return out
	}
	return copiedTlb(t)
}

func Flush(t Tlb, f Fence) Tlb {
	covered := coverageOf(f)
	if out, done := flushedIn[leafPte](t, covered); done {
		return out
	}
	if out, done := flushedIn[pointerPte](t, covered); done {
		return out
	}
	return copiedTlb(t)
}

func TlbTranslate(mem []byte, c Ctx, k Caches, kind int64, va uint64, pick int64) TlbTrans {
	set, valid := cacheSetOf(k)
	if !valid || !knownAccess(c, kind) || !knownPick(pick) {
		return TlbTrans{Cause: CauseBad}
	}
	pa, fault := set.phys(memory(mem), c, kind, virtAddr(va), pick)
	return TlbTrans{Cause: causeOf(fault, kind), Pa: pa, Caches: set.caches()}
}
