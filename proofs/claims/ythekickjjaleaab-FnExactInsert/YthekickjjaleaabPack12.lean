import Derived.Test.YthekickjjaleaabPack06
import Derived.Test.YthekickjjaleaabPack11
import Derived.Laws.CopyRow
import Derived.Laws.CopyOwn
import Derived.Test.YthekickjjaleaabPack07
import Derived.Test.YthekickjjaleaabPack08
import Derived.BigRegion
import Derived.Test.YthekickjjaleaabPack01
import Derived.Test.YthekickjjaleaabPack02
/- A row of empty entries that is made; entries that are copied. -/
namespace Go.Proofs.Ythekickjjaleaab
open Go.RowKit
set_option linter.unusedVariables false

theorem made_ents (z : EntM) (n : Nat) : (madeCells (entC z).toArray (n * 6)).toList = entsC (List.replicate n z) := by
  apply List.ext_getElem?
  intro j
  by_cases hj : j < n * 6
  · have hq : j / 6 < (List.replicate n z).length := by simp; omega
    have := entsC_at (List.replicate n z) (j / 6) (j % 6) hq (by omega)
    rw [show j / 6 * 6 + j % 6 = j by omega] at this
    rw [this]
    have h6 : j % 6 < (entC z).length := by simp [entC]; omega
    simp only [madeCells, List.getElem_replicate]
    rw [List.getElem?_eq_getElem h6]
    simp [hj, entC]
    rw [List.getElem?_eq_getElem (by simpa [entC] using h6)]
    rfl
  · rw [List.getElem?_eq_none (by simp [madeCells]; omega), List.getElem?_eq_none (by rw [entsC_len]; simp; omega)]

theorem makeE (n : Nat) (hn : n ≤ 1048576) : ∃ cs : Array Value, cs.toList = entsC (List.replicate n ent0) ∧ ∀ u : World, (Instr.makeSlice 61 (.int .i64 (n : Int)) (.int .i64 (n : Int))).run Try.prog u = .ok (.slice (some ⟨u.heap.size, 0, none⟩) n n) (u.alloc (.cells cs 75)) := by
  obtain ⟨i0, hi, hz0, hz1, hz2⟩ := info_parts Try.infoEnt
  refine ⟨madeCells (Value.agg #[.bool false, .int .i64 0, .int .u64 0, .int .u64 0, .bool false, .int .u64 0]).cells (n * 6), ?_, fun u => ?_⟩
  · exact made_ents ent0 n
  · have := run_make (P := Try.prog) u 61 75 i0 _ Try.underlying61 hi hz0 .i64 .i64 n n (by omega) (Int.le_refl _) (by rw [hz2]; omega) (by omega)
    rw [hz1] at this
    simpa using this

/-- copy over a whole row of six cells an element. -/
theorem run_copy_six {P : Program} (w : World) (dT sT ty elem : TypeId) (g n dCap : Nat) (a : Addr) (sCap : Nat) (cur : Array Value) (t : TypeId) (cs : List Value)
    (hu : P.underlying dT = some (.slice elem)) (hs : (P.info? elem).map (·.size) = some 6) (hg : w.heap[g]? = some (.cells cur t (0, 0))) (hn : cs.length = n * 6)
    (hsrc : ∀ j v, cs[j]? = some v → w.cell? (a.add j) = some v) (hfit : cs.length = cur.size) (h1 : ∀ v ∈ cs, v.oneCell' = true) :
    (Builtin.copy_ #[dT, sT] ty #[.slice (some ⟨g, 0, none⟩) n dCap, .slice (some a) n sCap]).run P w = .ok (goInt n) (w.setRow g cs.toArray) := by
  have hl := run_loadCells_list (P := P) w a cs hsrc
  have hst := run_storeCells_at P g 0 t cs 0 cur w hg (by simp; omega) h1
  cases hq : P.info? elem with
  | none => simp [hq] at hs
  | some i =>
    have hi : i.size = 6 := by simpa [hq] using hs
    simp [Builtin.copy_, run_underlying hu, Builtin.lenOf, Builtin.firstCells, sizeOf, typeInfo, hq, hi, ← hn, hl, hst]
    rw [List.drop_of_length_le (by simp; omega), List.append_nil]

theorem wpList_copy_six {P : Program} {w : World} {ops : Array Oper} {rest : List Oper} {o : Oper} {a : Act} {Q : Exit → Act → World → Prop} (hgd : o.guard = none) (d s : Operand) (dT sT : TypeId)
    (ho : o.op = .call { callee := .builtin .copy, args := #[d, s], argTypes := #[dT, sT] }) (elem : TypeId) (hu : P.underlying dT = some (.slice elem)) (hsz : (P.info? elem).map (·.size) = some 6)
    (g n dCap : Nat) (sp : Option Addr) (sCap : Nat) (hd : a.eval d = .slice (some ⟨g, 0, none⟩) n dCap) (hs : a.eval s = .slice sp n sCap) (hnil : sp = none → n = 0 ∧ sCap = 0) (hspot : ∀ q, sp = some q → q.spot = none)
    (cur : Array Value) (t : TypeId) (hg : w.heap[g]? = some (.cells cur t (0, 0))) (cs : List Value) (hr : RowC w sp n 6 cs) (hfit : cur.size = n * 6) (h1 : ∀ v ∈ cs, v.oneCell' = true)
    (h : ∀ w', w'.heap[g]? = some (.cells cs.toArray t (0, 0)) → Below g w w' → wpList P ops Q rest (a.put o.dst (goInt n)) w') : wpList P ops Q (o :: rest) a w := by
  refine wpList_plain hgd fun K hK => ?_
  cases sp with
  | none =>
    obtain ⟨rfl, rfl⟩ := hnil rfl
    have hcs : cs = [] := by have := hr.1; simpa using this
    subst hcs
    have hcur : cur = #[] := by simpa using hfit
    subst hcur
    have hrun := run_copy_nil (P := P) w dT sT o.type elem ⟨g, 0, none⟩ 0 dCap hu (by
      cases hq : P.info? elem with
      | none => simp [hq] at hsz
      | some i => rfl)
    unfold Oper.wp
    simp [execOp, ho, resolve, invoke, builtin, hd, hs, hrun, Result.andThen]
    exact hK _ _ (h w hg (Below.refl _ _))
  | some q =>
    obtain ⟨b, off, spot⟩ := q
    have := hspot _ rfl
    simp only at this
    subst this
    have hrun := run_copy_six (P := P) w dT sT o.type elem g n dCap ⟨b, off, none⟩ sCap cur t cs hu hsz hg hr.1 (src_row hr) (by rw [hr.1, hfit]) h1
    unfold Oper.wp
    simp [execOp, ho, resolve, invoke, builtin, hd, hs, hrun, Result.andThen]
    exact hK _ _ (h _ (setRow_heap w g _ _ t _ hg) (below_setRow (Below.refl _ _) (Nat.le_refl _) _))

theorem Try.sizeEnt : (Try.prog.info? 75).map (·.size) = some 6 := by kernel_rfl

set_option maxHeartbeats 1600000 in
theorem copiedTlb_any (v : Value) (t : TlbM) (w : World) (h : TlbAt w v t) :
    Calls Try.prog 105 #[v] w fun e w' => (∃ x, e = .returned x ∧ TlbOwn w.heap.size w' x t) ∧ Below w.heap.size w w' := by
  obtain ⟨a, cap, rfl, hr, _, _, _, hl, hlc, hcm, hnil, hsp⟩ := h
  obtain ⟨sets, ways, es⟩ := t
  obtain ⟨n, hn⟩ : ∃ n, es.length = n := ⟨_, rfl⟩
  simp only at hr hl hlc hnil ⊢
  rw [hn] at hr hl hlc hnil ⊢
  have n1 := ((Below.refl w.heap.size w).alloc (Nat.le_refl _) (Obj.cells #[.int .i64 sets, .int .i64 ways, .slice a n cap] 63)).alloc (by simp) (Obj.cells #[.int .i64 0, .int .i64 0, .slice none 0 0] 63)
  have HR1 : Hid (RowC ((w.alloc (Obj.cells #[.int .i64 sets, .int .i64 ways, .slice a n cap] 63)).alloc (Obj.cells #[.int .i64 0, .int .i64 0, .slice none 0 0] 63)) a n 6 (entsC es)) := hr.keep n1
  have H1 : Hid (((w.alloc (Obj.cells #[.int .i64 sets, .int .i64 ways, .slice a n cap] 63)).alloc (Obj.cells #[.int .i64 0, .int .i64 0, .slice none 0 0] 63)).heap[w.heap.size]? = some (.cells #[.int .i64 sets, .int .i64 ways, .slice a n cap] 63 (0, 0))) := by
    show _ = _
    rw [heap_alloc_old _ _ (by simp)]
    exact heap_alloc_new w _
  have H2 : Hid (((w.alloc (Obj.cells #[.int .i64 sets, .int .i64 ways, .slice a n cap] 63)).alloc (Obj.cells #[.int .i64 0, .int .i64 0, .slice none 0 0] 63)).heap[w.heap.size + 1]? = some (.cells #[.int .i64 0, .int .i64 0, .slice none 0 0] 63 (0, 0))) := by
    have := heap_alloc_new (w.alloc (Obj.cells #[.int .i64 sets, .int .i64 ways, .slice a n cap] 63)) (Obj.cells #[.int .i64 0, .int .i64 0, .slice none 0 0] 63)
    simp only [World.size_alloc] at this
    exact this
  have l1 : w.heap.size + 1 < ((w.alloc (Obj.cells #[.int .i64 sets, .int .i64 ways, .slice a n cap] 63)).alloc (Obj.cells #[.int .i64 0, .int .i64 0, .slice none 0 0] 63)).heap.size := by simp
  have HNi : Hid (a = none → n = 0 ∧ cap = 0) := hnil
  have HSp : Hid (∀ q, a = some q → q.spot = none) := hsp
  obtain ⟨cs, hcs, hmk⟩ := makeE n hl
  have hcsz : cs.size = n * 6 := by
    have : cs.toList.length = n * 6 := by rw [hcs, entsC_len]; simp
    simpa using this
  have nV : Below ((w.alloc (Obj.cells #[.int .i64 sets, .int .i64 ways, .slice a n cap] 63)).alloc (Obj.cells #[.int .i64 0, .int .i64 0, .slice none 0 0] 63)).heap.size ((w.alloc (Obj.cells #[.int .i64 sets, .int .i64 ways, .slice a n cap] 63)).alloc (Obj.cells #[.int .i64 0, .int .i64 0, .slice none 0 0] 63)) (((w.alloc (Obj.cells #[.int .i64 sets, .int .i64 ways, .slice a n cap] 63)).alloc (Obj.cells #[.int .i64 0, .int .i64 0, .slice none 0 0] 63)).alloc (.cells cs 75)) := (Below.refl _ _).alloc (Nat.le_refl _) _
  have HG : Hid ((((w.alloc (Obj.cells #[.int .i64 sets, .int .i64 ways, .slice a n cap] 63)).alloc (Obj.cells #[.int .i64 0, .int .i64 0, .slice none 0 0] 63)).alloc (.cells cs 75)).heap[w.heap.size + 1 + 1]? = some (.cells cs 75 (0, 0))) := by
    have := heap_alloc_new ((w.alloc (Obj.cells #[.int .i64 sets, .int .i64 ways, .slice a n cap] 63)).alloc (Obj.cells #[.int .i64 0, .int .i64 0, .slice none 0 0] 63)) (.cells cs 75)
    simp only [World.size_alloc] at this
    exact this
  have HRv : Hid (RowC (((w.alloc (Obj.cells #[.int .i64 sets, .int .i64 ways, .slice a n cap] 63)).alloc (Obj.cells #[.int .i64 0, .int .i64 0, .slice none 0 0] 63)).alloc (.cells cs 75)) a n 6 (entsC es)) := HR1.out.keep nV
  have K1 := hid_keep H1 nV
  have K2 := hid_keep H2 nV
  have A1 := Below.step n1 nV (Nat.le_refl _)
  clear hr hnil hsp hcs
  go_enter Try.func105, Try.ntmps105
  go_wp2_with (refine wpList_copy_six rfl (.tmp 8) (.tmp 10) 61 61 rfl 75 Try.underlying61 Try.sizeEnt (w.heap.size + 1 + 1) n _ a _ rfl rfl HNi.out HSp.out cs 75 HG.out (entsC es) HRv.out hcsz (entsC_one es) ?_; intro v3 h3 n3; have k1 := three_cells ((n3.block w.heap.size (by omega)).trans K1.out); have k2 := three_cells ((n3.block (w.heap.size + 1) (by omega)).trans K2.out); obtain ⟨⟨q0, q1, q2⟩, _, _, _⟩ := k1; obtain ⟨⟨j0, j1, j2⟩, i0, i1, i2⟩ := k2; have HG3 : Hid _ := h3; clear h3)
  have A3 : Below w.heap.size w v3 := A1.trans (n3.mono (by omega))
  have hsz3 : w.heap.size + 1 + 1 < v3.heap.size := (Array.getElem?_eq_some_iff.1 HG3.out).1
  have O3 : v3.ownsRow (w.heap.size + 1 + 1) 75 6 (.slice (some ⟨w.heap.size + 1 + 1, 0, none⟩) n n) n (entsC es) :=
    ⟨by rw [entsC_len, hn], .inr ⟨_, n, (entsC es).toArray, rfl, Nat.le_refl _, HG3.out, Nat.le_refl _, by unfold maxLen; omega, by simp [entsC_len, hn], by rw [List.take_of_length_le (by simp [entsC_len, hn])]⟩⟩
  refine bodyPost_ret (v := .agg #[.int .i64 sets, .int .i64 ways, .slice (some ⟨w.heap.size + 1 + 1, 0, none⟩) n n]) (by simp [results, Try.results105, go_sem, j0, j1, j2]) rfl ⟨⟨_, rfl, _, n, by rw [hn], ?_⟩, bel3 A3 (by omega) _ _ _⟩
  rw [hn]
  exact own_low (own_gb O3 (gb3 v3 (w.heap.size + 1) _ _ _) (by omega)) (by omega)

end Go.Proofs.Ythekickjjaleaab

/- The program's entry and tlb, for one kind of cache. Written by mk4.py. -/
namespace Go.Proofs.Ythekickjjaleaab
open Go.RowKit
set_option linter.unusedVariables false
attribute [local go_sem ↓] Go.wp_at_zero Go.wp_at_succ

theorem entryL_any (lv tg asd pt : Int) (gl vv : Bool) (w : World) :
    Calls Try.prog 156 #[.agg #[.int .i64 lv, .int .u64 tg, .int .u64 asd, .bool gl, .bool vv, .int .u64 pt]] w fun e w' => e = .returned (.agg #[.bool vv, .int .i64 lv, .int .u64 tg, .int .u64 asd, .bool gl, .int .u64 pt]) ∧ Below w.heap.size w w' := by
  have n1 := ((Below.refl w.heap.size w).alloc (Nat.le_refl _) (Obj.cells #[.int .i64 lv, .int .u64 tg, .int .u64 asd, .bool gl, .bool vv, .int .u64 pt] 172)).alloc (by simp) (Obj.cells #[.bool vv, .int .i64 lv, .int .u64 tg, .int .u64 asd, .bool gl, .int .u64 pt] 75)
  go_enter Try.func156, Try.ntmps156
  go_wp2_with fail
  exact bodyPost_ret (v := .agg #[.bool vv, .int .i64 lv, .int .u64 tg, .int .u64 asd, .bool gl, .int .u64 pt]) (by simp [results, Try.results156, go_sem]) rfl ⟨rfl, n1⟩

set_option maxRecDepth 20000 in
set_option maxHeartbeats 3200000 in
theorem tlbL_any (b o g n : Nat) (t : TlbM) (w : World) (hn : t.es.length = n) (hn1 : n ≤ 1048576) (hbl : b < w.heap.size) (hgl : g < w.heap.size)
    (c0 : w.cell? ⟨b, o, none⟩ = some (.int .i64 t.sets)) (c1 : w.cell? ⟨b, o + 1, none⟩ = some (.int .i64 t.ways)) (c2 : w.cell? ⟨b, o + 2, none⟩ = some (.slice (some ⟨g, 0, none⟩) n n)) (hr : RowC w (some ⟨g, 0, none⟩) n 6 (slotsC t.es)) :
    Calls Try.prog 143 #[.pointer (some ⟨b, o, none⟩)] w fun e w' => (∃ x, e = .returned x ∧ TlbOwn w.heap.size w' x t) ∧ Below w.heap.size w w' := by
  have HR : Hid (RowC w (some ⟨g, 0, none⟩) n 6 (slotsC t.es)) := hr
  have HN : Hid (t.es.length = n) := hn
  obtain ⟨sets, ways, es⟩ := t
  simp only at c0 c1 c2 HR HN
  clear hr hn
  obtain ⟨cs, hcs, hmk⟩ := makeE n hn1
  have n1 := (Below.refl w.heap.size w).alloc (Nat.le_refl _) (Obj.cells #[.int .i64 0, .int .i64 0, .slice none 0 0] 63)
  have H1 : Hid ((w.alloc (Obj.cells #[.int .i64 0, .int .i64 0, .slice none 0 0] 63)).heap[w.heap.size]? = some (.cells #[.int .i64 0, .int .i64 0, .slice none 0 0] 63 (0, 0))) := heap_alloc_new w _
  have l1 : (w.alloc (Obj.cells #[.int .i64 0, .int .i64 0, .slice none 0 0] 63)).heap.size = w.heap.size + 1 := by simp
  have nV : Below (w.alloc (Obj.cells #[.int .i64 0, .int .i64 0, .slice none 0 0] 63)).heap.size (w.alloc (Obj.cells #[.int .i64 0, .int .i64 0, .slice none 0 0] 63)) ((w.alloc (Obj.cells #[.int .i64 0, .int .i64 0, .slice none 0 0] 63)).alloc (.cells cs 75)) := (Below.refl _ _).alloc (Nat.le_refl _) _
  have hG : ((w.alloc (Obj.cells #[.int .i64 0, .int .i64 0, .slice none 0 0] 63)).alloc (.cells cs 75)).heap[w.heap.size + 1]? = some (.cells cs 75 (0, 0)) := by
    have := heap_alloc_new (w.alloc (Obj.cells #[.int .i64 0, .int .i64 0, .slice none 0 0] 63)) (.cells cs 75)
    simp only [World.size_alloc] at this
    exact this
  have hcl : cs.toList.length = n * 6 := by rw [hcs, entsC_len]; simp
  have O2 : Hid (((w.alloc (Obj.cells #[.int .i64 0, .int .i64 0, .slice none 0 0] 63)).alloc (.cells cs 75)).ownsRow (w.heap.size + 1) 75 6 (.slice (some ⟨w.heap.size + 1, 0, none⟩) n n) n (entsC (firstN 0 n es))) := by
    rw [firstN_start, ← hcs]
    exact ⟨hcl, .inr ⟨_, n, cs, rfl, Nat.le_refl _, hG, Nat.le_refl _, by unfold maxLen; omega, by rw [← hcl]; simp, List.take_of_length_le (by omega)⟩⟩
  have A2 := Below.step n1 nV (Nat.le_refl _)
  have K2 := hid_keep H1 nV
  have B2 : Below (w.heap.size + 1) ((w.alloc (Obj.cells #[.int .i64 0, .int .i64 0, .slice none 0 0] 63)).alloc (.cells cs 75)) ((w.alloc (Obj.cells #[.int .i64 0, .int .i64 0, .slice none 0 0] 63)).alloc (.cells cs 75)) := Below.refl _ _
  have l2 : ((w.alloc (Obj.cells #[.int .i64 0, .int .i64 0, .slice none 0 0] 63)).alloc (.cells cs 75)).heap.size = w.heap.size + 2 := by simp
  clear hG hcl hcs H1 n1 nV
  have e0 : w.heap.size ≠ b := by omega
  have e1 : w.heap.size + 1 ≠ b := by omega
  go_enter Try.func143, Try.ntmps143
  go_wp2_with fail
  generalize ((w.alloc (Obj.cells #[.int .i64 0, .int .i64 0, .slice none 0 0] 63)).alloc (.cells cs 75)) = v2 at O2 A2 K2 l2 B2 ⊢
  go_loopw [17] (fun i wr => ∃ k : Nat, k ≤ n ∧ i = .int .i64 k ∧ wr.ownsRow (w.heap.size + 1) 75 6 (.slice (some ⟨w.heap.size + 1, 0, none⟩) n n) n (entsC (firstN k n es)) ∧ Below (w.heap.size + 1) v2 wr) (fun i _ => n - (intOf i).toNat)
  case atStart => exact ⟨0, Nat.zero_le _, rfl, O2.out, B2⟩
  case round =>
    obtain ⟨k, hk, rfl, hO, hb⟩ := hrel
    have PO : Hid (wr.ownsRow (w.heap.size + 1) 75 6 (.slice (some ⟨w.heap.size + 1, 0, none⟩) n n) n (entsC (firstN k n es))) := hO
    have lg : w.heap.size + 1 < wr.heap.size := (own_at hO).2.2
    have A3 : Below w.heap.size w wr := A2.trans (hb.mono (by omega))
    have P1 : Hid (wr.heap[w.heap.size]? = some (.cells #[.int .i64 0, .int .i64 0, .slice none 0 0] 63 (0, 0))) := (hb.block w.heap.size (by omega)).trans K2.out
    clear hO
    have r0 : wr.cell? ⟨b, o, none⟩ = some (.int .i64 sets) := Below.cell2 A3 c0 hbl
    have r1 : wr.cell? ⟨b, o + 1, none⟩ = some (.int .i64 ways) := Below.cell2 A3 c1 hbl
    have r2 : wr.cell? ⟨b, o + 2, none⟩ = some (.slice (some ⟨g, 0, none⟩) n n) := Below.cell2 A3 c2 hbl
    by_cases hlt : k < n
    · obtain ⟨⟨vv, lv, tg, asd, gl, pt⟩, hx⟩ : ∃ x, es[k]? = some x := ⟨_, List.getElem?_eq_getElem (by rw [HN.out]; exact hlt)⟩
      have HXk : Hid (es[k]? = some ⟨vv, lv, tg, asd, gl, pt⟩) := hx
      have CE : ∀ j u, j < 6 → (slotC ⟨vv, lv, tg, asd, gl, pt⟩)[j]? = some u → wr.cell? ⟨g, k * 6 + j, none⟩ = some u := fun j u hj hu => slotRow_cell (HR.out.keep A3) HN.out k _ hx j u hj hu
      have g0 : wr.cell? ⟨g, k * 6, none⟩ = some (.int .i64 lv) := CE 0 _ (by omega) rfl
      have g1 : wr.cell? ⟨g, k * 6 + 1, none⟩ = some (.int .u64 tg) := CE 1 _ (by omega) rfl
      have g2 : wr.cell? ⟨g, k * 6 + 2, none⟩ = some (.int .u64 asd) := CE 2 _ (by omega) rfl
      have g3 : wr.cell? ⟨g, k * 6 + 3, none⟩ = some (.bool gl) := CE 3 _ (by omega) rfl
      have g4 : wr.cell? ⟨g, k * 6 + 4, none⟩ = some (.bool vv) := CE 4 _ (by omega) rfl
      have g5 : wr.cell? ⟨g, k * 6 + 5, none⟩ = some (.int .u64 pt) := CE 5 _ (by omega) rfl
      clear CE hx
      have n5 := (Below.refl wr.heap.size wr).alloc (Nat.le_refl _) (Obj.cells #[.int .i64 lv, .int .u64 tg, .int .u64 asd, .bool gl, .bool vv, .int .u64 pt] 172)
      go_wp2_with fail
      generalize wr.alloc (Obj.cells #[.int .i64 lv, .int .u64 tg, .int .u64 asd, .bool gl, .bool vv, .int .u64 pt] 172) = v5 at n5 ⊢
      refine (entryL_any lv tg asd pt gl vv v5).mono ?_
      rintro e v6 ⟨rfl, n6⟩
      have n56 := Below.step n5 n6 (Nat.le_refl _)
      have SO : Hid (v6.ownsRow (w.heap.size + 1) 75 6 (.slice (some ⟨w.heap.size + 1, 0, none⟩) n n) n (entsC (firstN k n es))) := own_below PO.out n56
      have B6 : Below (w.heap.size + 1) v2 v6 := hb.trans (n56.mono (by omega))
      have hfl : (entsC (firstN k n es)).length = n * 6 := by
        have := HN.out
        subst this
        rw [entsC_len, firstN_len _ _ (by omega)]
      clear g0 g1 g2 g3 g4 g5 r0 r1 r2 n5 n6 n56 hb A3
      have q0 := own_cell SO.out (k * 6) _ (List.getElem?_eq_getElem (by omega))
      have q1 := own_cell SO.out (k * 6 + 1) _ (List.getElem?_eq_getElem (by omega))
      have q2 := own_cell SO.out (k * 6 + 2) _ (List.getElem?_eq_getElem (by omega))
      have q3 := own_cell SO.out (k * 6 + 3) _ (List.getElem?_eq_getElem (by omega))
      have q4 := own_cell SO.out (k * 6 + 4) _ (List.getElem?_eq_getElem (by omega))
      have q5 := own_cell SO.out (k * 6 + 5) _ (List.getElem?_eq_getElem (by omega))
      generalize (entsC (firstN k n es))[k * 6]'_ = y0 at q0
      generalize (entsC (firstN k n es))[k * 6 + 1]'_ = y1 at q1
      generalize (entsC (firstN k n es))[k * 6 + 2]'_ = y2 at q2
      generalize (entsC (firstN k n es))[k * 6 + 3]'_ = y3 at q3
      generalize (entsC (firstN k n es))[k * 6 + 4]'_ = y4 at q4
      generalize (entsC (firstN k n es))[k * 6 + 5]'_ = y5 at q5
      have s0 := own_free SO.out (k * 6)
      have s1 := own_free SO.out (k * 6 + 1)
      have s2 := own_free SO.out (k * 6 + 2)
      have s3 := own_free SO.out (k * 6 + 3)
      have s4 := own_free SO.out (k * 6 + 4)
      have s5 := own_free SO.out (k * 6 + 5)
      go_wp2_with fail
      go_roundw
      case rel =>
        refine ⟨k + 1, by omega, by go_num, ?_, ?_⟩
        · have := HN.out
          subst this
          rw [firstN_next k es _ HXk.out, entsC_set _ _ _ (by rw [firstN_len _ _ (by omega)]; exact hlt)]
          exact own_store (own_store (own_store (own_store (own_store (own_store SO.out _ _) _ _) _ _) _ _) _ _) _ _
        · have hg1 : w.heap.size + 1 ≤ w.heap.size + 1 := Nat.le_refl _
          exact (((((B6.setCell (p := ⟨w.heap.size + 1, _, none⟩) hg1 _).setCell (p := ⟨w.heap.size + 1, _, none⟩) hg1 _).setCell (p := ⟨w.heap.size + 1, _, none⟩) hg1 _).setCell (p := ⟨w.heap.size + 1, _, none⟩) hg1 _).setCell (p := ⟨w.heap.size + 1, _, none⟩) hg1 _).setCell (p := ⟨w.heap.size + 1, _, none⟩) hg1 _
      case measure => simp [intOf]; omega
    · have hkn : k = n := by omega
      subst hkn
      obtain ⟨⟨d0, d1, d2⟩, f0, f1, f2⟩ := three_cells P1.out
      go_wp2_with fail
      go_region
      all_goals
        go_wp2_with fail
        refine bodyPost_ret (v := .agg #[.int .i64 sets, .int .i64 ways, .slice (some ⟨w.heap.size + 1, 0, none⟩) k k]) (by simp [results, Try.results143, go_sem, d0, d1, d2]) rfl ⟨⟨_, rfl, w.heap.size + 1, k, by simp only; rw [HN.out], ?_⟩, (bel3 A3 (Nat.le_refl _) _ _ _).drew⟩
        simp only
        rw [HN.out]
        have hO := PO.out
        have hq := HN.out
        subst hq
        rw [firstN_all] at hO
        exact own_low (own_drew (own_gb hO (gb3 wr w.heap.size _ _ _) (by omega))) (by omega)

end Go.Proofs.Ythekickjjaleaab

/- Bits of unsigned numbers as plain mathematics: single bits, several bits, replacing the lowest bits. -/
namespace Go.Proofs.Ythekickjjaleaab
set_option linter.unusedVariables false

theorem nat_and_pow (a k : Nat) : (a &&& 2 ^ k != 0) = (a / 2 ^ k % 2 == 1) := by
  have e : (a / 2 ^ k % 2 == 1) = a.testBit k := by rw [Nat.testBit_eq_decide_div_mod_eq]; rfl
  rw [e]
  cases h : a.testBit k
  · have : a &&& 2 ^ k = 0 := by
      apply Nat.eq_of_testBit_eq
      intro i
      rw [Nat.testBit_and, Nat.testBit_two_pow, Nat.zero_testBit]
      by_cases hi : k = i
      · subst hi; simp [h]
      · simp [hi]
    simp [this]
  · have : a &&& 2 ^ k ≠ 0 := by
      intro h0
      have := congrArg (fun n => n.testBit k) h0
      simp [Nat.testBit_and, h] at this
    simpa using this

theorem nat_and_or (a m n : Nat) : (a &&& (m ||| n) != 0) = ((a &&& m != 0) || (a &&& n != 0)) := by
  rw [Nat.and_or_distrib_left]
  cases h : (a &&& m != 0) <;> cases h' : (a &&& n != 0) <;> simp_all [Nat.or_eq_zero_iff]

/-- Some bit of x is among those of m. -/
def anyB (x m : Int) : Bool := bits .and .u64 x m != 0

theorem anyB_nat (a m : Nat) (ha : a < 18446744073709551616) (hm : m < 18446744073709551616) : anyB a m = (a &&& m != 0) := by
  rw [anyB, u64_and_nat a m ha hm]
  cases h : (a &&& m != 0)
  · simp at h; simp [h]
  · simp at h; simp; omega

theorem anyB_bit (k : Nat) (x p : Int) (hp : p = 2 ^ k) (hk : p < 18446744073709551616) (h0 : 0 ≤ x) (h1 : x ≤ 18446744073709551615) : anyB x p = bitB x p := by
  obtain ⟨a, rfl⟩ := Int.eq_ofNat_of_zero_le h0
  have e : p = ((2 ^ k : Nat) : Int) := by rw [hp]; push_cast; rfl
  rw [e] at hk ⊢
  rw [anyB_nat a (2 ^ k) (by omega) (by omega), nat_and_pow, bitB]
  rw [show ((a : Int) / ((2 ^ k : Nat) : Int) % 2) = ((a / 2 ^ k % 2 : Nat) : Int) by omega]
  generalize a / 2 ^ k % 2 = t
  rw [Bool.eq_iff_iff]
  simp only [beq_iff_eq]
  omega

theorem anyB_rwx (x : Int) (h0 : 0 ≤ x) (h1 : x ≤ 18446744073709551615) : anyB x 14 = (bitB x 2 || bitB x 4 || bitB x 8) := by
  rw [← anyB_bit 1 x 2 rfl (by omega) h0 h1, ← anyB_bit 2 x 4 rfl (by omega) h0 h1, ← anyB_bit 3 x 8 rfl (by omega) h0 h1]
  obtain ⟨a, rfl⟩ := Int.eq_ofNat_of_zero_le h0
  rw [show (14 : Int) = ((14 : Nat) : Int) from rfl, show (2 : Int) = ((2 : Nat) : Int) from rfl, show (4 : Int) = ((4 : Nat) : Int) from rfl, show (8 : Int) = ((8 : Nat) : Int) from rfl]
  rw [anyB_nat a 14 (by omega) (by omega), anyB_nat a 2 (by omega) (by omega), anyB_nat a 4 (by omega) (by omega), anyB_nat a 8 (by omega) (by omega)]
  rw [← nat_and_or, ← nat_and_or]
  rfl

theorem anyB_uad (x : Int) (h0 : 0 ≤ x) (h1 : x ≤ 18446744073709551615) : anyB x 208 = (bitB x 16 || bitB x 64 || bitB x 128) := by
  rw [← anyB_bit 4 x 16 rfl (by omega) h0 h1, ← anyB_bit 6 x 64 rfl (by omega) h0 h1, ← anyB_bit 7 x 128 rfl (by omega) h0 h1]
  obtain ⟨a, rfl⟩ := Int.eq_ofNat_of_zero_le h0
  rw [show (208 : Int) = ((208 : Nat) : Int) from rfl, show (16 : Int) = ((16 : Nat) : Int) from rfl, show (64 : Int) = ((64 : Nat) : Int) from rfl, show (128 : Int) = ((128 : Nat) : Int) from rfl]
  rw [anyB_nat a 208 (by omega) (by omega), anyB_nat a 16 (by omega) (by omega), anyB_nat a 64 (by omega) (by omega), anyB_nat a 128 (by omega) (by omega)]
  rw [← nat_and_or, ← nat_and_or]
  rfl

/-- The lowest k bits cleared. -/
theorem clear_u64 (k : Nat) (x m P : Int) (hP : P = 2 ^ k) (hm : m = P - 1) (hk : m < 18446744073709551616) (h0 : 0 ≤ x) (h1 : x ≤ 18446744073709551615) : bits .andNot .u64 x m = x / P * P := by
  obtain ⟨a, rfl⟩ := Int.eq_ofNat_of_zero_le h0
  have hp : 1 ≤ (2 ^ k : Nat) := Nat.one_le_two_pow
  have eP : P = ((2 ^ k : Nat) : Int) := by rw [hP]; push_cast; rfl
  have e : m = ((2 ^ k - 1 : Nat) : Int) := by rw [hm, eP]; omega
  rw [e] at hk ⊢
  rw [eP, u64_andNot_nat a (2 ^ k - 1) (by omega) (by omega)]
  rw [show ((a : Int) / ((2 ^ k : Nat) : Int) * ((2 ^ k : Nat) : Int)) = ((a / 2 ^ k * 2 ^ k : Nat) : Int) by push_cast; rfl]
  congr 1
  apply Nat.eq_of_testBit_eq
  intro i
  have hk64 : k ≤ 64 := by
    rcases Nat.lt_or_ge 64 k with h | h
    · have : 2 ^ 65 ≤ 2 ^ k := Nat.pow_le_pow_right (by omega) h
      omega
    · exact h
  rw [Nat.testBit_and, Nat.testBit_mul_two_pow, Nat.testBit_div_two_pow]
  by_cases hi : k ≤ i
  · by_cases hi' : i < 64
    · have : (18446744073709551615 - (2 ^ k - 1)).testBit i = true := by
        rw [show 18446744073709551615 - (2 ^ k - 1) = 2 ^ 64 - (2 ^ k - 1 + 1) by omega, Nat.testBit_two_pow_sub_succ (by omega), Nat.testBit_two_pow_sub_one]
        simp
        omega
      rw [this]
      simp [hi, show i - k + k = i by omega]
    · have : a.testBit i = false := Nat.testBit_lt_two_pow (Nat.lt_of_lt_of_le (by omega : a < 2 ^ 64) (Nat.pow_le_pow_right (by omega) (by omega)))
      simp [this, show i - k + k = i by omega]
  · have : (18446744073709551615 - (2 ^ k - 1)).testBit i = false := by
      rw [show 18446744073709551615 - (2 ^ k - 1) = 2 ^ 64 - (2 ^ k - 1 + 1) by omega, Nat.testBit_two_pow_sub_succ (by omega), Nat.testBit_two_pow_sub_one]
      simp
      omega
    simp [this, hi]

/-- The lowest bits of one number, the upper ones of another. -/
theorem splice_u64 (k : Nat) (x y m P : Int) (hP : P = 2 ^ k) (hm : m = P - 1) (hk : m < 18446744073709551616) (h0 : 0 ≤ x) (h1 : x ≤ 18446744073709551615) (g0 : 0 ≤ y) (g1 : y ≤ 18446744073709551615) :
    bits .or .u64 (bits .andNot .u64 x m) (bits .and .u64 y m) = x / P * P + y % P := by
  have hp : 1 ≤ P := by rw [hP]; exact Int.pow_pos (by omega : (0 : Int) < 2)
  rw [clear_u64 k x m P hP hm hk h0 h1, mask_u64 k y m (by rw [hm, hP]) hk g0 g1, ← hP]
  have a1 : 0 ≤ y % P := Int.emod_nonneg _ (by omega)
  have a2 : y % P < P := Int.emod_lt_of_pos _ (by omega)
  have a3 : 0 ≤ x / P := Int.ediv_nonneg h0 (by omega)
  have a4 : x / P * P ≤ x := Int.ediv_mul_le _ (by omega)
  have a5 : 0 ≤ x / P * P := Int.mul_nonneg a3 (by omega)
  have hc : bits .or .u64 (x / P * P) (y % P) = bits .or .u64 (y % P) (x / P * P) := by
    rw [u64_or _ _ a5 (by omega) a1 (by omega), u64_or _ _ a1 (by omega) a5 (by omega), Nat.or_comm]
  rw [hc, or_shift k P (y % P) (x / P) hP a1 a2 a3 (by omega) (by omega)]
  omega

end Go.Proofs.Ythekickjjaleaab
