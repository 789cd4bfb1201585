import Derived.Deep.MidRow
import Derived.OrdersHeld
import Derived.Deep.RegionHeld3
import Derived.Test.YthekickjjaleaacPack02
import Derived.Test.YthekickjjaleaacPack03
import Derived.Test.YthekickjjaleaacPack09
import Derived.Test.YthekickjjaleaacPack06
import Derived.Deep.DeepCutAuto
import Derived.StillTail
/- Structs of many cells that lie in a block of their own: read, written and copied whole, by laws, with no unrolling. No program is named here. -/
namespace Go.Proofs.Ythekickjjaleaac
open Go.RowKit
set_option linter.unusedVariables false

section
variable {P : Program} {ops : Array Oper} {Q : Exit → Act → World → Prop} {rest : List Oper} {a : Act}

/-- A load, its run known. -/
theorem wpl_load {d : Tmp} {T ty : TypeId} {x : Operand} {pos : String} {af : Array Edge} {w : World} {b o : Nat} {V : Value} (hx : a.eval x = .pointer (some ⟨b, o, none⟩)) (hl : (Instr.loadAt T (.pointer (some ⟨b, o, none⟩))).run P w = .ok V w)
    (h : wpList P ops Q rest (a.put (some d) V) w) : wpList P ops Q ({ dst := some d, op := .load T x, type := ty, pos := pos, after := af, guard := none } :: rest) a w :=
  wpList_plain rfl fun K hK => by
    unfold Oper.wp execOp
    simp only [hx, Sem.run_bind, hl, Result.andThen_ok, Sem.run_pure]
    exact hK _ _ h

/-- A store, its run known. -/
theorem wpl_store {T ty : TypeId} {x y : Operand} {pos : String} {af : Array Edge} {w w' : World} {b o : Nat} {V : Value} (hx : a.eval x = .pointer (some ⟨b, o, none⟩)) (hy : a.eval y = V) (hl : (Instr.storeAt T (.pointer (some ⟨b, o, none⟩)) V).run P w = .ok () w')
    (h : wpList P ops Q rest (a.put none undef) w') : wpList P ops Q ({ dst := none, op := .store T x y, type := ty, pos := pos, after := af, guard := none } :: rest) a w :=
  wpList_plain rfl fun K hK => by
    unfold Oper.wp execOp
    simp only [hx, hy, Sem.run_bind, hl, Result.andThen_ok, Sem.run_pure]
    exact hK _ _ h

end

/-- A block's cells from a place on. -/
theorem box_range {w : World} {b : Nat} {C : Array Value} {t : TypeId} {fr : Nat × Nat} (hb : w.heap[b]? = some (.cells C t fr)) {o n : Nat} {L : List Value} (hL : (C.toList.drop o).take n = L) : w.rangeAt b o L := by
  intro j v hv
  rw [← hL, List.getElem?_take] at hv
  split at hv
  · rw [List.getElem?_drop] at hv
    simp only [World.cell?, hb]
    simpa using hv
  · cases hv

/-- A struct read whole out of a block. -/
theorem box_load {P : Program} {w : World} {b : Nat} {C : Array Value} {t : TypeId} {fr : Nat × Nat} (hb : w.heap[b]? = some (.cells C t fr)) {T : TypeId} {d : TypeDesc} (hu : P.underlying T = some d) (hd : d.isRow = true) {o n : Nat} (L : List Value) (hi : (P.info? T).map (·.size) = some n) (hL : (C.toList.drop o).take n = L) (hn : L.length = n) :
    (Instr.loadAt T (.pointer (some ⟨b, o, none⟩))).run P w = .ok (.agg L.toArray) w :=
  run_loadAt_mid w b o T L d (box_range hb hL) hu hd (by rw [hn]; exact hi)

theorem box_loadVar {P : Program} {w : World} {b : Nat} {C : Array Value} {t : TypeId} {fr : Nat × Nat} (hb : w.heap[b]? = some (.cells C t fr)) {T : TypeId} {d : TypeDesc} (hu : P.underlying T = some d) (hd : d.isRow = true) {o n : Nat} (L : List Value) (hi : (P.info? T).map (·.size) = some n) (hL : (C.toList.drop o).take n = L) (hn : L.length = n) :
    (loadVar T ⟨b, o, none⟩).run P w = .ok (.agg L.toArray) w :=
  run_loadVar_mid w b o T L d (box_range hb hL) hu hd (by rw [hn]; exact hi)

/-- A piece of an array replaced. -/
def putA (C : Array Value) (o : Nat) (L : List Value) : Array Value := (C.toList.take o ++ L ++ C.toList.drop (o + L.length)).toArray

theorem setCells_heap (b : Nat) : ∀ (L : List Value) (o : Nat) (w : World) (C : Array Value) (t : TypeId) (fr : Nat × Nat), w.heap[b]? = some (.cells C t fr) → o + L.length ≤ C.size → (w.setCells b o L).heap[b]? = some (.cells (putA C o L) t fr)
  | [], o, w, C, t, fr, h, hl => by simp [World.setCells, putA, h]
  | v :: L, o, w, C, t, fr, h, hl => by
    simp only [List.length_cons] at hl
    have h1 : (w.setCell ⟨b, o, none⟩ v).heap[b]? = some (.cells (C.setIfInBounds o v) t fr) := by
      simp [World.setCell, Array.getElem?_modify, h]
    have h2 := setCells_heap b L (o + 1) _ _ t fr h1 (by simp; omega)
    have e : putA (C.setIfInBounds o v) (o + 1) L = putA C o (v :: L) := by
      unfold putA
      congr 1
      simp only [Array.toList_setIfInBounds, List.length_cons]
      have hlen : o < C.toList.length := by simpa using (by omega : o < C.size)
      rw [List.take_add_one, List.take_set_of_le (Nat.le_refl _), List.getElem?_set_self hlen, List.drop_set_of_lt (by omega), show o + 1 + L.length = o + (L.length + 1) by omega]
      simp
    rw [← e]
    exact h2

theorem setCells_gb (b : Nat) : ∀ (L : List Value) (o : Nat) (w v : World), w.grownBy v (some b) → w.grownBy (v.setCells b o L) (some b)
  | [], o, w, v, h => h
  | x :: L, o, w, v, h => setCells_gb b L (o + 1) w _ (gb_set h o x)

/-- A struct written whole into a block of its own kind. -/
theorem box_store {P : Program} {w : World} {b : Nat} {C : Array Value} {t : TypeId} (hb : w.heap[b]? = some (.cells C t (0, 0))) {T : TypeId} {o : Nat} {V : Array Value} (hi : (P.info? T).map (·.size) = some V.size) (hs : o + V.size ≤ C.size) (h1 : V.all (·.oneCell') = true) :
    (Instr.storeAt T (.pointer (some ⟨b, o, none⟩)) (.agg V)).run P w = .ok () (w.setCells b o V.toList) := by
  refine run_storeAt_mid w b o T V (fun j hj => ?_) hi h1
  refine ⟨?_, ?_⟩
  · have : o + j < C.size := by omega
    simp [World.cell?, hb, this]
  · simp [World.frozen?, hb]

/-- A cell of a block written. -/
theorem box_set {w : World} {b : Nat} {C : Array Value} {t : TypeId} {fr : Nat × Nat} (hb : w.heap[b]? = some (.cells C t fr)) (i : Nat) (v : Value) : (w.setCell ⟨b, i, none⟩ v).heap[b]? = some (.cells (C.setIfInBounds i v) t fr) := by
  simp [World.setCell, Array.getElem?_modify, hb]

theorem box_cell {w : World} {b : Nat} {C : Array Value} {t : TypeId} {fr : Nat × Nat} (hb : w.heap[b]? = some (.cells C t fr)) (i : Nat) {v : Value} (hv : C[i]? = some v) : w.cell? ⟨b, i, none⟩ = some v := by
  simp [World.cell?, hb, hv]

theorem box_free {w : World} {b : Nat} {C : Array Value} {t : TypeId} (hb : w.heap[b]? = some (.cells C t (0, 0))) (i : Nat) : w.frozen? ⟨b, i, none⟩ = false := by
  simp [World.frozen?, hb]

theorem box_off {w : World} {b r : Nat} {o : Obj} (h : w.heap[b]? = some o) (i : Nat) (v : Value) (hne : b ≠ r) : (w.setCell ⟨r, i, none⟩ v).heap[b]? = some o := by
  rw [← h]
  simp [World.setCell, Array.getElem?_modify, Ne.symm hne]

theorem bel_set {B : Nat} {a w : World} {g : Nat} (h : Below B a w) (hg : B ≤ g) (i : Nat) (v : Value) : Below B a (w.setCell ⟨g, i, none⟩ v) := h.setCell hg _

theorem bel_sets {B : Nat} {a : World} {g : Nat} (hg : B ≤ g) : ∀ (L : List Value) (o : Nat) (w : World), Below B a w → Below B a (w.setCells g o L)
  | [], o, w, h => h
  | x :: L, o, w, h => bel_sets hg L (o + 1) _ (h.setCell hg _)

theorem size_sets (b : Nat) : ∀ (L : List Value) (o : Nat) (w : World), (w.setCells b o L).heap.size = w.heap.size
  | [], o, w => rfl
  | x :: L, o, w => by
    rw [World.setCells, size_sets b L (o + 1)]
    simp

theorem putA_all (C V : Array Value) (h : V.size = C.size) : putA C 0 V.toList = V := by
  unfold putA
  rw [List.take_zero, List.drop_of_length_le (by simp [h])]
  simp

/-- A block's whole struct, read. -/
theorem box_whole {P : Program} {w : World} {b : Nat} {C : Array Value} {t : TypeId} {fr : Nat × Nat} (hb : w.heap[b]? = some (.cells C t fr)) {T : TypeId} {d : TypeDesc} (hu : P.underlying T = some d) (hd : d.isRow = true) (hi : (P.info? T).map (·.size) = some C.size) :
    (Instr.loadAt T (.pointer (some ⟨b, 0, none⟩))).run P w = .ok (.agg C) w := by
  have := box_load (P := P) hb hu hd (o := 0) C.toList hi (by rw [List.drop_zero, List.take_of_length_le (by simp)]) (by simp)
  simpa using this

theorem box_wholeV {P : Program} {w : World} {b : Nat} {C : Array Value} {t : TypeId} {fr : Nat × Nat} (hb : w.heap[b]? = some (.cells C t fr)) {T : TypeId} {d : TypeDesc} (hu : P.underlying T = some d) (hd : d.isRow = true) (hi : (P.info? T).map (·.size) = some C.size) :
    (loadVar T ⟨b, 0, none⟩).run P w = .ok (.agg C) w := by
  have := box_loadVar (P := P) hb hu hd (o := 0) C.toList hi (by rw [List.drop_zero, List.take_of_length_le (by simp)]) (by simp)
  simpa using this

/-- A block's whole struct, written. -/
theorem box_put {P : Program} {w : World} {b : Nat} {C V : Array Value} {t : TypeId} (hb : w.heap[b]? = some (.cells C t (0, 0))) {T : TypeId} (hi : (P.info? T).map (·.size) = some V.size) (hs : V.size = C.size) (h1 : V.all (·.oneCell') = true) :
    (Instr.storeAt T (.pointer (some ⟨b, 0, none⟩)) (.agg V)).run P w = .ok () (w.setCells b 0 V.toList) :=
  box_store hb hi (by omega) h1

theorem box_putH {w : World} {b : Nat} {C V : Array Value} {t : TypeId} {fr : Nat × Nat} (hb : w.heap[b]? = some (.cells C t fr)) (hs : V.size = C.size) : (w.setCells b 0 V.toList).heap[b]? = some (.cells V t fr) := by
  rw [setCells_heap b V.toList 0 w C t fr hb (by simp; omega), putA_all C V hs]

theorem alloc1 (w : World) (A : Array Value) (T : TypeId) : (w.alloc (.cells A T)).heap[w.heap.size]? = some (.cells A T (0, 0)) ∧ (w.alloc (.cells A T)).heap.size = w.heap.size + 1 ∧ Below w.heap.size w (w.alloc (.cells A T)) :=
  ⟨heap_alloc_new w _, by simp, (Below.refl _ _).alloc (Nat.le_refl _) _⟩

theorem alloc2 (w : World) (A B : Array Value) (T U : TypeId) : ((w.alloc (.cells A T)).alloc (.cells B U)).heap[w.heap.size]? = some (.cells A T (0, 0)) ∧ ((w.alloc (.cells A T)).alloc (.cells B U)).heap[w.heap.size + 1]? = some (.cells B U (0, 0)) ∧ ((w.alloc (.cells A T)).alloc (.cells B U)).heap.size = w.heap.size + 2 ∧ Below w.heap.size w ((w.alloc (.cells A T)).alloc (.cells B U)) := by
  refine ⟨?_, ?_, by simp, ((Below.refl _ _).alloc (Nat.le_refl _) _).alloc (by simp) _⟩
  · rw [heap_alloc_old _ _ (by simp)]
    exact heap_alloc_new w _
  · have := heap_alloc_new (w.alloc (.cells A T)) (.cells B U)
    simp only [World.size_alloc] at this
    exact this

theorem alloc3 (w : World) (A B C : Array Value) (T U S : TypeId) : (((w.alloc (.cells A T)).alloc (.cells B U)).alloc (.cells C S)).heap[w.heap.size]? = some (.cells A T (0, 0)) ∧ (((w.alloc (.cells A T)).alloc (.cells B U)).alloc (.cells C S)).heap[w.heap.size + 1]? = some (.cells B U (0, 0)) ∧ (((w.alloc (.cells A T)).alloc (.cells B U)).alloc (.cells C S)).heap[w.heap.size + 2]? = some (.cells C S (0, 0)) ∧
    (((w.alloc (.cells A T)).alloc (.cells B U)).alloc (.cells C S)).heap.size = w.heap.size + 3 ∧ Below w.heap.size w (((w.alloc (.cells A T)).alloc (.cells B U)).alloc (.cells C S)) := by
  obtain ⟨h1, h2, h3, h4⟩ := alloc2 w A B T U
  obtain ⟨k1, k2, k3⟩ := alloc1 ((w.alloc (.cells A T)).alloc (.cells B U)) C S
  refine ⟨heap_keep h1 k3 (by omega), heap_keep h2 k3 (by omega), by rw [h3] at k1; exact k1, by omega, Below.step h4 k3 (Nat.le_refl _)⟩

/-- The end of a function whose one result lies in a block. -/
theorem ret_box {P : Program} {fn : Func} {R : Ending → World → Prop} {a : Act} {w : World} {s : Tmp} {T : TypeId} {b : Nat} {V : Value} (hr : fn.results = #[ResultVar.cell s T]) (hs : a.tmps[s]? = some (.pointer (some ⟨b, 0, none⟩))) (hl : (loadVar T ⟨b, 0, none⟩).run P w = .ok V w) (hd : a.defers = []) (hR : R (.returned V) w) : bodyPost P fn R .ret a w := by
  refine bodyPost_ret (v := V) ?_ hd hR
  simp [results, hr, hs, asAddr, hl]

/-- A row lies in no block of another kind. -/
theorem box_own_ne {e T : TypeId} {size base n pb : Nat} {w : World} {s : Value} {cs : List Value} {cur : Array Value} {q : Nat × Nat} (h : w.ownsRow base e size s n cs) (hp : w.heap[pb]? = some (.cells cur T q)) (hT : T ≠ e) : s.ownBlock ≠ some pb := by
  rcases h.2 with ⟨h1, _⟩ | ⟨g, cap, cur', h1, _, h3, _⟩
  · rw [h1]; simp [Value.ownBlock]
  · rw [h1]
    simp only [Value.ownBlock]
    intro he
    have : g = pb := Option.some.inj he
    subst this
    rw [h3] at hp
    cases hp
    exact hT rfl

theorem box_own_set {e T : TypeId} {size base n pb : Nat} {w w' : World} {s : Value} {cs : List Value} {cur : Array Value} {q : Nat × Nat} (h : w.ownsRow base e size s n cs) (hp : w.heap[pb]? = some (.cells cur T q)) (hT : T ≠ e) (hg : w.grownBy w' (some pb)) : w'.ownsRow base e size s n cs :=
  h.kept hg (.inr (box_own_ne h hp hT))

theorem exec_load {P : Program} {a : Act} {d : Option Tmp} {T ty : TypeId} {x : Operand} {pos : String} {af : Array Edge} {g : Option (Nat × Bool)} {w : World} {b o : Nat} {V : Value} (hx : a.eval x = .pointer (some ⟨b, o, none⟩)) (hl : (Instr.loadAt T (.pointer (some ⟨b, o, none⟩))).run P w = .ok V w) :
    (execOp a.eval { dst := d, op := .load T x, type := ty, pos := pos, after := af, guard := g }).run P w = .ok (.value V) w := by
  unfold execOp
  simp only [hx, Sem.run_bind, hl, Result.andThen_ok, Sem.run_pure]

end Go.Proofs.Ythekickjjaleaac

/- Harts and runs as values, and where their rows lie. -/
namespace Go.Proofs.Ythekickjjaleaac
open Go.RowKit
set_option linter.unusedVariables false

/-- Where the rows of a hart lie. -/
structure PtrM where
  am : Option Addr
  cm : Nat
  ar : Option Addr
  cr : Nat
  a1 : Option Addr
  c1 : Nat
  a2 : Option Addr
  c2 : Nat
  a3 : Option Addr
  c3 : Nat

def kA (p : PtrM) (k : KM) : Array Value := #[.int .i64 k.i.sets, .int .i64 k.i.ways, .slice p.a1 k.i.es.length p.c1, .int .i64 k.d.sets, .int .i64 k.d.ways, .slice p.a2 k.d.es.length p.c2, .int .i64 k.p.sets, .int .i64 k.p.ways, .slice p.a3 k.p.es.length p.c3]

def hartA (p : PtrM) (h : HartM) : Array Value := #[.slice p.am h.mem.length p.cm, .slice p.ar h.regs.length p.cr, .int .u64 h.pc, .int .i64 h.mode, .bool h.sum, .bool h.mxr, .int .u64 h.satp, .int .u64 h.tvec, .int .u64 h.epc, .int .i64 h.emode, .int .i64 h.cause, .int .u64 h.tval,
  .int .i64 h.k.i.sets, .int .i64 h.k.i.ways, .slice p.a1 h.k.i.es.length p.c1, .int .i64 h.k.d.sets, .int .i64 h.k.d.ways, .slice p.a2 h.k.d.es.length p.c2, .int .i64 h.k.p.sets, .int .i64 h.k.p.ways, .slice p.a3 h.k.p.es.length p.c3]

def looksC : List (Int × Int) → List Value
  | [] => []
  | l :: ls => .int .i64 l.1 :: .int .u64 l.2 :: looksC ls

def numsC (zs : List Int) : List Value := zs.map (Value.int .u64)

def hptrs (p : PtrM) : List (Option Addr) := [p.am, p.ar, p.a1, p.a2, p.a3]

/-- Where the rows come from: the elder ones, or new memory. -/
def From (B : Nat) (p p' : PtrM) : Prop := ∀ q, some q ∈ hptrs p' → some q ∈ hptrs p ∨ B ≤ q.block
def FromL (B : Nat) (al al' : Option Addr) : Prop := ∀ q, al' = some q → al = some q ∨ B ≤ q.block

/-- The rows of a hart. -/
structure HartIn (w : World) (p : PtrM) (h : HartM) : Prop where
  mem : Byt w p.am h.mem.length h.mem
  memc : h.mem.length ≤ p.cm ∧ p.cm ≤ 9223372036854775807
  regs : RowC w p.ar h.regs.length 1 (numsC h.regs)
  regc : h.regs.length ≤ p.cr ∧ p.cr ≤ 9223372036854775807
  rega : (p.ar = none → h.regs.length = 0 ∧ p.cr = 0) ∧ ∀ q, p.ar = some q → q.spot = none
  ks : KAt w (.agg (kA p h.k)) h.k
  low : ∀ q, some q ∈ hptrs p → q.block < w.heap.size

structure RunIn (w : World) (p : PtrM) (al : Option Addr) (cl : Nat) (r : RunM) : Prop where
  h : HartIn w p r.h
  looks : RowC w al r.looks.length 2 (looksC r.looks)
  lookc : r.looks.length ≤ cl ∧ cl ≤ 9223372036854775807
  looka : (al = none → r.looks.length = 0 ∧ cl = 0) ∧ ∀ q, al = some q → q.spot = none
  lookl : r.looks.length ≤ 8
  low : ∀ q, al = some q → q.block < w.heap.size

theorem HartIn.keep {w w' : World} {p : PtrM} {h : HartM} (k : HartIn w p h) (hb : Below w.heap.size w w') : HartIn w' p h :=
  ⟨k.mem.keep hb, k.memc, k.regs.keep hb, k.regc, k.rega, k.ks.keep hb, fun q hq => Nat.lt_of_lt_of_le (k.low q hq) hb.size⟩

theorem RunIn.keep {w w' : World} {p : PtrM} {al : Option Addr} {cl : Nat} {r : RunM} (k : RunIn w p al cl r) (hb : Below w.heap.size w w') : RunIn w' p al cl r :=
  ⟨k.h.keep hb, k.looks.keep hb, k.lookc, k.looka, k.lookl, fun q hq => Nat.lt_of_lt_of_le (k.low q hq) hb.size⟩

theorem Byt.gb' {w w' : World} {a : Option Addr} {len r : Nat} {zs : List Int} (h : Byt w a len zs) (hg : w.grownBy w' (some r)) (hne : ∀ q, a = some q → q.block ≠ r) : Byt w' a len zs := by
  obtain ⟨h1, h2, h3⟩ := h
  refine ⟨h1, h2, ?_⟩
  rcases h3 with h3 | ⟨b, off, rfl, hb, hc⟩
  · exact .inl h3
  · have hne' : b ≠ r := hne ⟨b, off, none⟩ rfl
    exact .inr ⟨b, off, rfl, Nat.lt_of_lt_of_le hb hg.size, fun i hi => (World.cell?_of_block (hg.block b hb (by simpa using hne'))).trans (hc i hi)⟩

theorem TlbAt.gb' {w w' : World} {t : TlbM} {a : Option Addr} {n c r : Nat} {x y : Value} (h : TlbAt w (.agg #[x, y, .slice a n c]) t) (hg : w.grownBy w' (some r)) (hne : ∀ q, a = some q → q.block ≠ r) : TlbAt w' (.agg #[x, y, .slice a n c]) t := by
  obtain ⟨a', c', he, hr, rest⟩ := h
  simp only [Value.agg.injEq, Array.mk.injEq, List.cons.injEq, Value.slice.injEq, and_true] at he
  obtain ⟨rfl, rfl, rfl, rfl, rfl⟩ := he
  exact ⟨_, _, rfl, RowC.gb' hr hg hne, rest⟩

theorem HartIn.gb {w w' : World} {p : PtrM} {h : HartM} {r : Nat} (k : HartIn w p h) (hg : w.grownBy w' (some r)) (hne : ∀ q, some q ∈ hptrs p → q.block ≠ r) : HartIn w' p h := by
  refine ⟨k.mem.gb' hg fun q hq => hne q (by simp [hptrs, hq]), k.memc, RowC.gb' k.regs hg fun q hq => hne q (by simp [hptrs, hq]), k.regc, k.rega, ?_, fun q hq => Nat.lt_of_lt_of_le (k.low q hq) hg.size⟩
  obtain ⟨a1, c1, a2, c2, a3, c3, he, t1, t2, t3⟩ := k.ks
  simp only [kA, Value.agg.injEq, Array.mk.injEq, List.cons.injEq, Value.slice.injEq, true_and, and_true] at he
  obtain ⟨⟨rfl, rfl⟩, ⟨rfl, rfl⟩, rfl, rfl⟩ := he
  exact ⟨_, _, _, _, _, _, rfl, t1.gb' hg fun q hq => hne q (by simp [hptrs, hq]), t2.gb' hg fun q hq => hne q (by simp [hptrs, hq]), t3.gb' hg fun q hq => hne q (by simp [hptrs, hq])⟩

theorem RunIn.gb {w w' : World} {p : PtrM} {al : Option Addr} {cl r : Nat} {rm : RunM} (k : RunIn w p al cl rm) (hg : w.grownBy w' (some r)) (hne : ∀ q, some q ∈ hptrs p → q.block ≠ r) (hnl : ∀ q, al = some q → q.block ≠ r) : RunIn w' p al cl rm :=
  ⟨k.h.gb hg hne, RowC.gb' k.looks hg hnl, k.lookc, k.looka, k.lookl, fun q hq => Nat.lt_of_lt_of_le (k.low q hq) hg.size⟩

abbrev zhartA : Array Value := #[.slice none 0 0, .slice none 0 0, .int .u64 0, .int .i64 0, .bool false, .bool false, .int .u64 0, .int .u64 0, .int .u64 0, .int .i64 0, .int .i64 0, .int .u64 0, .int .i64 0, .int .i64 0, .slice none 0 0, .int .i64 0, .int .i64 0, .slice none 0 0, .int .i64 0, .int .i64 0, .slice none 0 0]
theorem hart_one (p : PtrM) (h : HartM) : (hartA p h).all (·.oneCell') = true := by
  simp [hartA, Value.oneCell']
theorem hart_size (p : PtrM) (h : HartM) : (hartA p h).size = 21 := rfl
theorem zhart_size : zhartA.size = 21 := rfl
theorem hartI : (Try.prog.info? 31).map (·.size) = some 21 := by kernel_rfl

end Go.Proofs.Ythekickjjaleaac

/- The specification's chapter 5: small parts: l5Trap, l5Ctx, l5Scheme, l5At. -/
namespace Go.Proofs.Ythekickjjaleaac
open Go.RowKit
set_option linter.unusedVariables false

set_option maxHeartbeats 400000 in
theorem l5Scheme_any (satp : Int) (w : World) (h0 : 0 ≤ satp) (h1 : satp ≤ 18446744073709551615) :
    Calls Try.prog 21 #[.int .u64 satp] w fun e w' => e = .returned (.bool (schemeM satp)) ∧ Below w.heap.size w w' := by
  have HS : Hid (schemeM satp = (satp / 1152921504606846976 % 16 == 0 || satp / 1152921504606846976 % 16 == 8)) := rfl
  have HB : Hid (∀ u, Calls Try.prog 47 #[.int .u64 satp, .int .i64 60, .int .i64 63] u fun e w' => e = .returned (.int .u64 (satp / 1152921504606846976 % 16)) ∧ ∃ n, w' = u.drewN n) := fun u => l2Bits_at satp 60 63 _ _ u h0 h1 (by omega) (by omega) (by omega) (by omega) (by decide) (by decide)
  generalize schemeM satp = q at *
  generalize satp / 1152921504606846976 % 16 = x at *
  by_cases hx : x = 0
  · subst hx
    have hq : q = true := by rw [HS.out]; rfl
    subst hq
    go_enter Try.func21, Try.ntmps21
    go_wp2_with fail
    refine (HB.out w).mono ?_
    rintro e v1 ⟨rfl, n, rfl⟩
    go_wp2_with fail
    go_ret
    exact ⟨rfl, below_drewN (Below.refl _ _) n⟩
  · have hx' : (x == 0) = false := by simpa using hx
    go_enter Try.func21, Try.ntmps21
    go_wp2_with fail
    refine (HB.out w).mono ?_
    rintro e v1 ⟨rfl, n, rfl⟩
    go_wp2_with fail
    refine (HB.out _).mono ?_
    rintro e v2 ⟨rfl, m, rfl⟩
    go_wp2_with fail
    go_ret
    exact ⟨ret_bool (by rw [HS.out, hx']; simp), below_drewN (Below.refl _ _) (n + m)⟩

set_option maxHeartbeats 400000 in
theorem l5At_any (a : Option Addr) (len cap : Nat) (zs : List Int) (i : Nat) (w : World) (h : Byt w a len zs) (hl : len ≤ 1048576) (hi : i ≤ 9223372036854775807) :
    Calls Try.prog 19 #[.slice a len cap, .int .i64 i] w fun e w' => e = .returned (.int .i64 (atM zs i)) ∧ w' = w := by
  obtain ⟨h1, h2, h3⟩ := h
  by_cases hlt : i < len
  · rcases h3 with h3 | ⟨b, off, rfl, hbw, hc⟩
    · omega
    have g1 := hc i hlt
    have g2 := h2 i
    have HA : Hid (zs[i]?.getD 0 = atM zs i) := rfl
    generalize zs[i]?.getD 0 = x at g1 g2 HA
    clear hc h2
    go_enter Try.func19, Try.ntmps19
    go_wp2_with fail
    go_ret
    exact ⟨ret_i64 HA.out, rfl⟩
  · have HA : Hid (atM zs i = 0) := by
      show zs[i]?.getD 0 = 0
      rw [List.getElem?_eq_none (by omega)]
      rfl
    clear h2 h3
    go_enter Try.func19, Try.ntmps19
    go_wp2_with fail
    go_ret
    exact ⟨ret_i64 HA.out.symm, rfl⟩

end Go.Proofs.Ythekickjjaleaac

/- The specification's chapter 5: l5SetReg. -/
namespace Go.Proofs.Ythekickjjaleaac
open Go.RowKit
set_option linter.unusedVariables false

theorem Try.infoU : (Try.prog.info? 24).map (fun i => (i.zero, i.size, i.bytes)) = some (some (.int .u64 0), 1, 8) := by kernel_rfl

theorem numsC_one (zs : List Int) : ∀ u ∈ numsC zs, u.oneCell' = true := by
  intro u hu
  obtain ⟨_, _, rfl⟩ := List.mem_map.1 hu
  rfl

theorem numsC_set (zs : List Int) (i : Nat) (x : Int) : (numsC zs).set i (.int .u64 x) = numsC (zs.set i x) := by simp [numsC, List.map_set]

theorem numsC_at (zs : List Int) (i : Nat) (h : i < zs.length) : (numsC zs)[i]? = some (.int .u64 (zs[i]?.getD 0)) := by
  simp [numsC, h]

end Go.Proofs.Ythekickjjaleaac

/- The specification's chapter 5: l5Copy. -/
namespace Go.Proofs.Ythekickjjaleaac
open Go.RowKit
set_option linter.unusedVariables false

def bytC (zs : List Int) : List Value := zs.map (Value.int .u8)

theorem bytC_one (zs : List Int) : ∀ u ∈ bytC zs, u.oneCell' = true := one_u8 zs

theorem KOwn.gb {base r : Nat} {w w' : World} {v : Value} {k : KM} (h : KOwn base w v k) (hg : w.grownBy w' (some r)) (hr : r < base) : KOwn base w' v k := by
  obtain ⟨g1, c1, g2, c2, g3, c3, rfl, o1, o2, o3⟩ := h
  exact ⟨g1, c1, g2, c2, g3, c3, rfl, own_gb o1 hg hr, own_gb o2 hg hr, own_gb o3 hg hr⟩

/-- The caches' rows, each of one's own or nil. -/
def KRows (base : Nat) (w : World) (q : PtrM) (k : KM) : Prop :=
  w.ownsRow base 91 6 (.slice q.a1 k.i.es.length q.c1) k.i.es.length (entsC k.i.es) ∧ w.ownsRow base 91 6 (.slice q.a2 k.d.es.length q.c2) k.d.es.length (entsC k.d.es) ∧ w.ownsRow base 91 6 (.slice q.a3 k.p.es.length q.c3) k.p.es.length (entsC k.p.es)

theorem KRows.gb {base r : Nat} {w w' : World} {q : PtrM} {k : KM} (h : KRows base w q k) (hg : w.grownBy w' (some r)) (hr : r < base) : KRows base w' q k :=
  ⟨own_gb h.1 hg hr, own_gb h.2.1 hg hr, own_gb h.2.2 hg hr⟩

theorem KRows.set {base pb : Nat} {w w' : World} {q : PtrM} {k : KM} {cur : Array Value} {T : TypeId} {f : Nat × Nat} (h : KRows base w q k) (hp : w.heap[pb]? = some (.cells cur T f)) (hT : T ≠ 91) (hg : w.grownBy w' (some pb)) : KRows base w' q k :=
  ⟨box_own_set h.1 hp hT hg, box_own_set h.2.1 hp hT hg, box_own_set h.2.2 hp hT hg⟩

theorem KRows.keep {base : Nat} {w w' : World} {q : PtrM} {k : KM} (h : KRows base w q k) (hb : Below w.heap.size w w') : KRows base w' q k :=
  ⟨own_below h.1 hb, own_below h.2.1 hb, own_below h.2.2 hb⟩

theorem own_tlbAt {base : Nat} {w : World} {t : TlbM} {a : Option Addr} {c : Nat} (ho : w.ownsRow base 91 6 (.slice a t.es.length c) t.es.length (entsC t.es)) (hk : tlbOk t) : TlbAt w (.agg #[.int .i64 t.sets, .int .i64 t.ways, .slice a t.es.length c]) t := by
  have hr := row_own ho
  rcases ho.2 with ⟨h2, h3⟩ | ⟨g', cap', cur, h2, hb, hg, hc1, hc2, _⟩
  · simp only [Value.slice.injEq] at h2
    obtain ⟨rfl, h4, rfl⟩ := h2
    exact ⟨none, 0, rfl, hr, hk.1, hk.2.1, hk.2.2.1, hk.2.2.2, by omega, by omega, fun _ => ⟨h4, rfl⟩, fun q hq => (by cases hq)⟩
  · simp only [Value.slice.injEq] at h2
    obtain ⟨rfl, _, rfl⟩ := h2
    exact ⟨some ⟨g', 0, none⟩, _, rfl, hr, hk.1, hk.2.1, hk.2.2.1, hk.2.2.2, hc1, by unfold maxLen at hc2; omega, (by intro h; cases h), (by intro q hq; cases hq; rfl)⟩

theorem KRows.at {base : Nat} {w : World} {q : PtrM} {k : KM} (h : KRows base w q k) (hk : kOk k) : KAt w (.agg (kA q k)) k :=
  ⟨_, _, _, _, _, _, rfl, own_tlbAt h.1 hk.1, own_tlbAt h.2.1 hk.2.1, own_tlbAt h.2.2 hk.2.2⟩

theorem own_ptr {base size n c : Nat} {e : TypeId} {w : World} {a : Option Addr} {cs : List Value} (h : w.ownsRow base e size (.slice a n c) n cs) (q : Addr) (hq : a = some q) : base ≤ q.block ∧ q.block < w.heap.size := by
  subst hq
  exact (own_at h).2

theorem KRows.ptrs {base : Nat} {w : World} {p : PtrM} {k : KM} (h : KRows base w p k) (q : Addr) (hq : p.a1 = some q ∨ p.a2 = some q ∨ p.a3 = some q) : base ≤ q.block ∧ q.block < w.heap.size := by
  rcases hq with hq | hq | hq
  · exact own_ptr h.1 q hq
  · exact own_ptr h.2.1 q hq
  · exact own_ptr h.2.2 q hq

theorem KAt.ok {w : World} {v : Value} {k : KM} (h : KAt w v k) : kOk k := by
  obtain ⟨a1, c1, a2, c2, a3, c3, rfl, h1, h2, h3⟩ := h
  exact ⟨h1.ok, h2.ok, h3.ok⟩

theorem k_one (p : PtrM) (k : KM) : (kA p k).all (·.oneCell') = true := by
  simp [kA, Value.oneCell']
theorem kI : (Try.prog.info? 29).map (·.size) = some 9 := by kernel_rfl

end Go.Proofs.Ythekickjjaleaac

/- A region that draws its order and ends in a store: its other operations read, or are calls that make new memory alone with a fixed answer (the quiet ones), or are calls and new variables whose answers hang on the world (the wild ones). The quiet ones are walked once, in the order of the text; each wild one once, under an invariant. -/
namespace Go.Proofs.Ythekickjjaleaac
open Go.RowKit
set_option linter.unusedVariables false

section
variable {P : Program} {ops : Array Oper}

/-- The slot that operation j writes. -/
def dstOf (ops : Array Oper) (j : Nat) : Option Tmp := (ops[j]?).bind (·.dst)

structure Head (ops : Array Oper) (ws : List Nat) (z s i : Nat) (o : Oper) (d : Tmp) : Prop where
  op : ops[i]? = some o
  dst : o.dst = some d
  lt : d < s
  guard : i ∈ ws → o.guard = none
  apart : ∀ j, j < z → j ≠ i → dstOf ops j ≠ some d
  looks : ∀ j t, j < z → dstOf ops j = some t → t ∈ o.looksAt ops → j < i ∧ Region.waitsFor .any ops i j = true ∧ (i ∈ ws ∨ j ∉ ws)
  sink : ∃ j, i < j ∧ j < z + 1 ∧ Region.waitsFor .any ops j i = true

/-- A frame in which the operations of S have come up: the quiet ones' slots are as in A, the wild ones' hold p; all else is as in a. -/
structure Fr (ops : Array Oper) (ws : List Nat) (z : Nat) (a A : Act) (S : Nat → Prop) (p : Nat → Value) (b : Act) : Prop where
  defers : b.defers = a.defers
  size : b.tmps.size = a.tmps.size
  old : ∀ d : Nat, (∀ j, j < z → S j → dstOf ops j ≠ some d) → b.tmps[d]? = a.tmps[d]?
  new : ∀ (d : Nat) j, j < z → S j → j ∉ ws → dstOf ops j = some d → b.tmps[d]? = A.tmps[d]?
  wild : ∀ (d : Nat) j, j < z → S j → j ∈ ws → dstOf ops j = some d → b.tmps[d]? = some (p j)

theorem put_at {b : Act} {d : Nat} {x : Value} (h : d < b.tmps.size) : (b.put (some d) x).tmps[d]? = some x := by
  simp [Act.put, h]

theorem put_off {b : Act} {e : Option Tmp} {d : Nat} {x : Value} (h : e ≠ some d) : (b.put e x).tmps[d]? = b.tmps[d]? := by
  cases e with
  | none => rfl
  | some e => simp [Act.put, Array.getElem?_setIfInBounds_ne (show e ≠ d from fun he => h (he ▸ rfl))]

theorem Head.is {ws : List Nat} {z s i : Nat} {o : Oper} {d : Tmp} (h : Head ops ws z s i o d) : dstOf ops i = some d := by
  rw [dstOf, h.op]; exact h.dst

theorem Fr.put {ws : List Nat} {z s i d : Nat} {a A b : Act} {S S' : Nat → Prop} {p p' : Nat → Value} {o : Oper} {x : Value} (h : Fr ops ws z a A S p b) (hh : Head ops ws z s i o d) (hs : a.tmps.size = s) (hx : i ∉ ws → A.tmps[d]? = some x) (hp : i ∈ ws → p' i = x) (hp' : ∀ j, j ≠ i → p' j = p j)
    (hS : ∀ j, j < z → (S' j ↔ S j ∨ j = i)) (hi : i < z) : Fr ops ws z a A S' p' (b.put (some d) x) := by
  have one : ∀ e j, j < z → S' j → dstOf ops j = some e → (d = e ∧ j = i) ∨ (d ≠ e ∧ S j ∧ j ≠ i) := fun e j hj hSj hd => by
    by_cases hji : j = i
    · subst hji
      exact .inl ⟨Option.some.inj (hh.is.symm.trans hd), rfl⟩
    · refine .inr ⟨fun hde => hh.apart j hj hji (by rw [hd, hde]), ((hS j hj).1 hSj).resolve_right hji, hji⟩
  refine ⟨h.defers, by simp [Act.put, h.size], fun e he => ?_, fun e j hj hSj hw hd => ?_, fun e j hj hSj hw hd => ?_⟩
  · have hne : d ≠ e := fun hde => he i hi ((hS i hi).2 (.inr rfl)) (by rw [hh.is, hde])
    rw [put_off (by simpa using hne)]
    exact h.old e fun j hj hj2 => he j hj ((hS j hj).2 (.inl hj2))
  · rcases one e j hj hSj hd with ⟨rfl, rfl⟩ | ⟨h1, h2, h3⟩
    · rw [put_at (by rw [h.size, hs]; exact hh.lt), hx hw]
    · rw [put_off (by simpa using h1)]
      exact h.new e j hj h2 hw hd
  · rcases one e j hj hSj hd with ⟨rfl, rfl⟩ | ⟨h1, h2, h3⟩
    · rw [put_at (by rw [h.size, hs]; exact hh.lt), hp hw]
    · rw [put_off (by simpa using h1), hp' j h3]
      exact h.wild e j hj h2 hw hd

/-- What has come up is closed: what it waited for has come up. -/
def Closed (ops : Array Oper) (listed : Array Bool) : Prop := ∀ j oj, ops[j]? = some oj → listed.getD j false = true → ∀ e ∈ oj.after, Region.binds .any e = true → listed.getD e.on false = true

theorem Closed.set {listed : Array Bool} {i : Nat} (h : Closed ops listed) (hi : i ∈ Region.ready .any ops listed) : Closed ops (listed.setIfInBounds i true) := by
  obtain ⟨_, oi, hoi, hall⟩ := mem_ready.1 hi
  intro j oj hj hl e he hb
  by_cases hij : i = j
  · subst hij
    have : oj = oi := Option.some.inj (hj.symm.trans hoi)
    subst this
    exact getD_set_true (hall e he hb)
  · rw [getD_set_ne false hij] at hl
    exact getD_set_true (h j oj hj hl e he hb)

theorem waits_closed {listed : Array Bool} {i j : Nat} (hc : Closed ops listed) (hi : listed.getD i false = true) (hw : Region.waitsFor .any ops i j = true) : listed.getD j false = true := by
  obtain ⟨o, ho, e, he, hb, hon⟩ := Region.waitsFor_spec hw
  rw [← hon]
  exact hc i o ho hi e he hb

theorem getD_tf {listed : Array Bool} {i : Nat} (h : listed.getD i true = false) : listed.getD i false = false := by
  rcases Nat.lt_or_ge i listed.size with h' | h'
  · simp [h'] at h ⊢; exact h
  · simp [Array.getElem?_eq_none h'] at h

/-- A wild operation in a frame: its answer and the world behind it are as K says. -/
def WildAt (P : Program) (o : Oper) (a : Act) (w : World) (K : Value → World → Prop) : Prop :=
  (∃ x w', (execOp a.eval o).run P w = .ok (.value x) w' ∧ K x w') ∨ (∃ f args, (execOp a.eval o).run P w = .ok (.enter f args) w ∧ Calls P f args w fun e w' => ∃ x, e = .returned x ∧ K x w')

theorem WildAt.wp {Q : Exit → Act → World → Prop} {o : Oper} {a b : Act} {w : World} {K : Value → World → Prop} {K' : Act → World → Prop} (h : WildAt P o a w K) (he : execOp b.eval o = execOp a.eval o) (hK : ∀ x w', K x w' → K' (b.put o.dst x) w') : o.wp P b w K' Q := by
  unfold Oper.wp
  rw [he]
  rcases h with ⟨x, w', h1, h2⟩ | ⟨f, args, h1, h2⟩
  · rw [h1]
    exact hK x w' h2
  · rw [h1]
    refine h2.mono ?_
    rintro e w' ⟨x, rfl, hx⟩
    exact hK x w' hx

end
end Go.Proofs.Ythekickjjaleaac
