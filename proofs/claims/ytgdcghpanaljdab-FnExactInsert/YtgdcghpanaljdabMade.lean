/- A row of empty entries that is made; entries that are copied. -/
import Derived.Test.YtgdcghpanaljdabSpec4c
import Derived.Test.YtgdcghpanaljdabSlots
import Derived.Laws.CopyRow
import Derived.Laws.CopyOwn
import Derived.Test.YtgdcghpanaljdabSpec4l
namespace Go.Proofs.Ytgdcghpanaljdab
open Go.RowKit
set_option linter.unusedVariables false

theorem made_ents (z : EntM) (n : Nat) : (madeCells (entC z).toArray (n * 6)).toList = entsC (List.replicate n z) := by
  apply List.ext_getElem?
  intro j
  by_cases hj : j < n * 6
  · have hq : j / 6 < (List.replicate n z).length := by simp; omega
    have := entsC_at (List.replicate n z) (j / 6) (j % 6) hq (by omega)
    rw [show j / 6 * 6 + j % 6 = j by omega] at this
    rw [this]
    have h6 : j % 6 < (entC z).length := by simp [entC]; omega
    simp only [madeCells, List.getElem_replicate]
    rw [List.getElem?_eq_getElem h6]
    simp [hj, entC]
    rw [List.getElem?_eq_getElem (by simpa [entC] using h6)]
    rfl
  · rw [List.getElem?_eq_none (by simp [madeCells]; omega), List.getElem?_eq_none (by rw [entsC_len]; simp; omega)]

theorem makeE (n : Nat) (hn : n ≤ 1048576) : ∃ cs : Array Value, cs.toList = entsC (List.replicate n ent0) ∧ ∀ u : World, (Instr.makeSlice 61 (.int .i64 (n : Int)) (.int .i64 (n : Int))).run Try.prog u = .ok (.slice (some ⟨u.heap.size, 0, none⟩) n n) (u.alloc (.cells cs 75)) := by
  obtain ⟨i0, hi, hz0, hz1, hz2⟩ := info_parts Try.infoEnt
  refine ⟨madeCells (Value.agg #[.bool false, .int .i64 0, .int .u64 0, .int .u64 0, .bool false, .int .u64 0]).cells (n * 6), ?_, fun u => ?_⟩
  · exact made_ents ent0 n
  · have := run_make (P := Try.prog) u 61 75 i0 _ Try.underlying61 hi hz0 .i64 .i64 n n (by omega) (Int.le_refl _) (by rw [hz2]; omega) (by omega)
    rw [hz1] at this
    simpa using this

/-- copy over a whole row of six cells an element. -/
theorem run_copy_six {P : Program} (w : World) (dT sT ty elem : TypeId) (g n dCap : Nat) (a : Addr) (sCap : Nat) (cur : Array Value) (t : TypeId) (cs : List Value)
    (hu : P.underlying dT = some (.slice elem)) (hs : (P.info? elem).map (·.size) = some 6) (hg : w.heap[g]? = some (.cells cur t (0, 0))) (hn : cs.length = n * 6)
    (hsrc : ∀ j v, cs[j]? = some v → w.cell? (a.add j) = some v) (hfit : cs.length = cur.size) (h1 : ∀ v ∈ cs, v.oneCell' = true) :
    (Builtin.copy_ #[dT, sT] ty #[.slice (some ⟨g, 0, none⟩) n dCap, .slice (some a) n sCap]).run P w = .ok (goInt n) (w.setRow g cs.toArray) := by
  have hl := run_loadCells_list (P := P) w a cs hsrc
  have hst := run_storeCells_at P g 0 t cs 0 cur w hg (by simp; omega) h1
  cases hq : P.info? elem with
  | none => simp [hq] at hs
  | some i =>
    have hi : i.size = 6 := by simpa [hq] using hs
    simp [Builtin.copy_, run_underlying hu, Builtin.lenOf, Builtin.firstCells, sizeOf, typeInfo, hq, hi, ← hn, hl, hst]
    rw [List.drop_of_length_le (by simp; omega), List.append_nil]

theorem wpList_copy_six {P : Program} {w : World} {ops : Array Oper} {rest : List Oper} {o : Oper} {a : Act} {Q : Exit → Act → World → Prop} (hgd : o.guard = none) (d s : Operand) (dT sT : TypeId)
    (ho : o.op = .call { callee := .builtin .copy, args := #[d, s], argTypes := #[dT, sT] }) (elem : TypeId) (hu : P.underlying dT = some (.slice elem)) (hsz : (P.info? elem).map (·.size) = some 6)
    (g n dCap : Nat) (sp : Option Addr) (sCap : Nat) (hd : a.eval d = .slice (some ⟨g, 0, none⟩) n dCap) (hs : a.eval s = .slice sp n sCap) (hnil : sp = none → n = 0 ∧ sCap = 0) (hspot : ∀ q, sp = some q → q.spot = none)
    (cur : Array Value) (t : TypeId) (hg : w.heap[g]? = some (.cells cur t (0, 0))) (cs : List Value) (hr : RowC w sp n 6 cs) (hfit : cur.size = n * 6) (h1 : ∀ v ∈ cs, v.oneCell' = true)
    (h : ∀ w', w'.heap[g]? = some (.cells cs.toArray t (0, 0)) → Below g w w' → wpList P ops Q rest (a.put o.dst (goInt n)) w') : wpList P ops Q (o :: rest) a w := by
  refine wpList_plain hgd fun K hK => ?_
  cases sp with
  | none =>
    obtain ⟨rfl, rfl⟩ := hnil rfl
    have hcs : cs = [] := by have := hr.1; simpa using this
    subst hcs
    have hcur : cur = #[] := by simpa using hfit
    subst hcur
    have hrun := run_copy_nil (P := P) w dT sT o.type elem ⟨g, 0, none⟩ 0 dCap hu (by
      cases hq : P.info? elem with
      | none => simp [hq] at hsz
      | some i => rfl)
    unfold Oper.wp
    simp [execOp, ho, resolve, invoke, builtin, hd, hs, hrun, Result.andThen]
    exact hK _ _ (h w hg (Below.refl _ _))
  | some q =>
    obtain ⟨b, off, spot⟩ := q
    have := hspot _ rfl
    simp only at this
    subst this
    have hrun := run_copy_six (P := P) w dT sT o.type elem g n dCap ⟨b, off, none⟩ sCap cur t cs hu hsz hg hr.1 (src_row hr) (by rw [hr.1, hfit]) h1
    unfold Oper.wp
    simp [execOp, ho, resolve, invoke, builtin, hd, hs, hrun, Result.andThen]
    exact hK _ _ (h _ (setRow_heap w g _ _ t _ hg) (below_setRow (Below.refl _ _) (Nat.le_refl _) _))

theorem Try.sizeEnt : (Try.prog.info? 75).map (·.size) = some 6 := by kernel_rfl

set_option maxHeartbeats 1600000 in
theorem copiedTlb_any (v : Value) (t : TlbM) (w : World) (h : TlbAt w v t) :
    Calls Try.prog 105 #[v] w fun e w' => (∃ x, e = .returned x ∧ TlbOwn w.heap.size w' x t) ∧ Below w.heap.size w w' := by
  obtain ⟨a, cap, rfl, hr, _, _, _, hl, hlc, hcm, hnil, hsp⟩ := h
  obtain ⟨sets, ways, es⟩ := t
  obtain ⟨n, hn⟩ : ∃ n, es.length = n := ⟨_, rfl⟩
  simp only at hr hl hlc hnil ⊢
  rw [hn] at hr hl hlc hnil ⊢
  have n1 := ((Below.refl w.heap.size w).alloc (Nat.le_refl _) (Obj.cells #[.int .i64 sets, .int .i64 ways, .slice a n cap] 63)).alloc (by simp) (Obj.cells #[.int .i64 0, .int .i64 0, .slice none 0 0] 63)
  have HR1 : Hid (RowC ((w.alloc (Obj.cells #[.int .i64 sets, .int .i64 ways, .slice a n cap] 63)).alloc (Obj.cells #[.int .i64 0, .int .i64 0, .slice none 0 0] 63)) a n 6 (entsC es)) := hr.keep n1
  have H1 : Hid (((w.alloc (Obj.cells #[.int .i64 sets, .int .i64 ways, .slice a n cap] 63)).alloc (Obj.cells #[.int .i64 0, .int .i64 0, .slice none 0 0] 63)).heap[w.heap.size]? = some (.cells #[.int .i64 sets, .int .i64 ways, .slice a n cap] 63 (0, 0))) := by
    show _ = _
    rw [heap_alloc_old _ _ (by simp)]
    exact heap_alloc_new w _
  have H2 : Hid (((w.alloc (Obj.cells #[.int .i64 sets, .int .i64 ways, .slice a n cap] 63)).alloc (Obj.cells #[.int .i64 0, .int .i64 0, .slice none 0 0] 63)).heap[w.heap.size + 1]? = some (.cells #[.int .i64 0, .int .i64 0, .slice none 0 0] 63 (0, 0))) := by
    have := heap_alloc_new (w.alloc (Obj.cells #[.int .i64 sets, .int .i64 ways, .slice a n cap] 63)) (Obj.cells #[.int .i64 0, .int .i64 0, .slice none 0 0] 63)
    simp only [World.size_alloc] at this
    exact this
  have l1 : w.heap.size + 1 < ((w.alloc (Obj.cells #[.int .i64 sets, .int .i64 ways, .slice a n cap] 63)).alloc (Obj.cells #[.int .i64 0, .int .i64 0, .slice none 0 0] 63)).heap.size := by simp
  have HNi : Hid (a = none → n = 0 ∧ cap = 0) := hnil
  have HSp : Hid (∀ q, a = some q → q.spot = none) := hsp
  obtain ⟨cs, hcs, hmk⟩ := makeE n hl
  have hcsz : cs.size = n * 6 := by
    have : cs.toList.length = n * 6 := by rw [hcs, entsC_len]; simp
    simpa using this
  have nV : Below ((w.alloc (Obj.cells #[.int .i64 sets, .int .i64 ways, .slice a n cap] 63)).alloc (Obj.cells #[.int .i64 0, .int .i64 0, .slice none 0 0] 63)).heap.size ((w.alloc (Obj.cells #[.int .i64 sets, .int .i64 ways, .slice a n cap] 63)).alloc (Obj.cells #[.int .i64 0, .int .i64 0, .slice none 0 0] 63)) (((w.alloc (Obj.cells #[.int .i64 sets, .int .i64 ways, .slice a n cap] 63)).alloc (Obj.cells #[.int .i64 0, .int .i64 0, .slice none 0 0] 63)).alloc (.cells cs 75)) := (Below.refl _ _).alloc (Nat.le_refl _) _
  have HG : Hid ((((w.alloc (Obj.cells #[.int .i64 sets, .int .i64 ways, .slice a n cap] 63)).alloc (Obj.cells #[.int .i64 0, .int .i64 0, .slice none 0 0] 63)).alloc (.cells cs 75)).heap[w.heap.size + 1 + 1]? = some (.cells cs 75 (0, 0))) := by
    have := heap_alloc_new ((w.alloc (Obj.cells #[.int .i64 sets, .int .i64 ways, .slice a n cap] 63)).alloc (Obj.cells #[.int .i64 0, .int .i64 0, .slice none 0 0] 63)) (.cells cs 75)
    simp only [World.size_alloc] at this
    exact this
  have HRv : Hid (RowC (((w.alloc (Obj.cells #[.int .i64 sets, .int .i64 ways, .slice a n cap] 63)).alloc (Obj.cells #[.int .i64 0, .int .i64 0, .slice none 0 0] 63)).alloc (.cells cs 75)) a n 6 (entsC es)) := HR1.out.keep nV
  have K1 := hid_keep H1 nV
  have K2 := hid_keep H2 nV
  have A1 := Below.step n1 nV (Nat.le_refl _)
  clear hr hnil hsp hcs
  go_enter Try.func105, Try.ntmps105
  go_wp2_with (refine wpList_copy_six rfl (.tmp 8) (.tmp 10) 61 61 rfl 75 Try.underlying61 Try.sizeEnt (w.heap.size + 1 + 1) n _ a _ rfl rfl HNi.out HSp.out cs 75 HG.out (entsC es) HRv.out hcsz (entsC_one es) ?_; intro v3 h3 n3; have k1 := three_cells ((n3.block w.heap.size (by omega)).trans K1.out); have k2 := three_cells ((n3.block (w.heap.size + 1) (by omega)).trans K2.out); obtain ⟨⟨q0, q1, q2⟩, _, _, _⟩ := k1; obtain ⟨⟨j0, j1, j2⟩, i0, i1, i2⟩ := k2; have HG3 : Hid _ := h3; clear h3)
  have A3 : Below w.heap.size w v3 := A1.trans (n3.mono (by omega))
  have hsz3 : w.heap.size + 1 + 1 < v3.heap.size := (Array.getElem?_eq_some_iff.1 HG3.out).1
  have O3 : v3.ownsRow (w.heap.size + 1 + 1) 75 6 (.slice (some ⟨w.heap.size + 1 + 1, 0, none⟩) n n) n (entsC es) :=
    ⟨by rw [entsC_len, hn], .inr ⟨_, n, (entsC es).toArray, rfl, Nat.le_refl _, HG3.out, Nat.le_refl _, by unfold maxLen; omega, by simp [entsC_len, hn], by rw [List.take_of_length_le (by simp [entsC_len, hn])]⟩⟩
  refine bodyPost_ret (v := .agg #[.int .i64 sets, .int .i64 ways, .slice (some ⟨w.heap.size + 1 + 1, 0, none⟩) n n]) (by simp [results, Try.results105, go_sem, j0, j1, j2]) rfl ⟨⟨_, rfl, _, n, by rw [hn], ?_⟩, bel3 A3 (by omega) _ _ _⟩
  rw [hn]
  exact own_low (own_gb O3 (gb3 v3 (w.heap.size + 1) _ _ _) (by omega)) (by omega)

end Go.Proofs.Ytgdcghpanaljdab
