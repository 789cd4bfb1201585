/- The program's entry and tlb, for one kind of cache. Written by mk4.py. -/
import Derived.Test.YtgdcghpanaljdabSlots2
import Derived.Test.YtgdcghpanaljdabSpec4x
import Derived.Test.YtgdcghpanaljdabMade
import Derived.BigRegion
namespace Go.Proofs.Ytgdcghpanaljdab
open Go.RowKit
set_option linter.unusedVariables false
attribute [local go_sem ↓] Go.wp_at_zero Go.wp_at_succ

theorem entryP_any (lv tg asd pt : Int) (gl vv : Bool) (w : World) :
    Calls Try.prog 157 #[.agg #[.int .i64 lv, .int .u64 tg, .int .u64 asd, .bool gl, .bool vv, .int .u64 pt]] w fun e w' => e = .returned (.agg #[.bool vv, .int .i64 lv, .int .u64 tg, .int .u64 asd, .bool gl, .int .u64 pt]) ∧ Below w.heap.size w w' := by
  have n1 := ((Below.refl w.heap.size w).alloc (Nat.le_refl _) (Obj.cells #[.int .i64 lv, .int .u64 tg, .int .u64 asd, .bool gl, .bool vv, .int .u64 pt] 167)).alloc (by simp) (Obj.cells #[.bool vv, .int .i64 lv, .int .u64 tg, .int .u64 asd, .bool gl, .int .u64 pt] 75)
  go_enter Try.func157, Try.ntmps157
  go_wp2_with fail
  exact bodyPost_ret (v := .agg #[.bool vv, .int .i64 lv, .int .u64 tg, .int .u64 asd, .bool gl, .int .u64 pt]) (by simp [results, Try.results157, go_sem]) rfl ⟨rfl, n1⟩

set_option maxRecDepth 20000 in
set_option maxHeartbeats 3200000 in
theorem tlbP_any (b o g n : Nat) (t : TlbM) (w : World) (hn : t.es.length = n) (hn1 : n ≤ 1048576) (hbl : b < w.heap.size) (hgl : g < w.heap.size)
    (c0 : w.cell? ⟨b, o, none⟩ = some (.int .i64 t.sets)) (c1 : w.cell? ⟨b, o + 1, none⟩ = some (.int .i64 t.ways)) (c2 : w.cell? ⟨b, o + 2, none⟩ = some (.slice (some ⟨g, 0, none⟩) n n)) (hr : RowC w (some ⟨g, 0, none⟩) n 6 (slotsC t.es)) :
    Calls Try.prog 145 #[.pointer (some ⟨b, o, none⟩)] w fun e w' => (∃ x, e = .returned x ∧ TlbOwn w.heap.size w' x t) ∧ Below w.heap.size w w' := by
  have HR : Hid (RowC w (some ⟨g, 0, none⟩) n 6 (slotsC t.es)) := hr
  have HN : Hid (t.es.length = n) := hn
  obtain ⟨sets, ways, es⟩ := t
  simp only at c0 c1 c2 HR HN
  clear hr hn
  obtain ⟨cs, hcs, hmk⟩ := makeE n hn1
  have n1 := (Below.refl w.heap.size w).alloc (Nat.le_refl _) (Obj.cells #[.int .i64 0, .int .i64 0, .slice none 0 0] 63)
  have H1 : Hid ((w.alloc (Obj.cells #[.int .i64 0, .int .i64 0, .slice none 0 0] 63)).heap[w.heap.size]? = some (.cells #[.int .i64 0, .int .i64 0, .slice none 0 0] 63 (0, 0))) := heap_alloc_new w _
  have l1 : (w.alloc (Obj.cells #[.int .i64 0, .int .i64 0, .slice none 0 0] 63)).heap.size = w.heap.size + 1 := by simp
  have nV : Below (w.alloc (Obj.cells #[.int .i64 0, .int .i64 0, .slice none 0 0] 63)).heap.size (w.alloc (Obj.cells #[.int .i64 0, .int .i64 0, .slice none 0 0] 63)) ((w.alloc (Obj.cells #[.int .i64 0, .int .i64 0, .slice none 0 0] 63)).alloc (.cells cs 75)) := (Below.refl _ _).alloc (Nat.le_refl _) _
  have hG : ((w.alloc (Obj.cells #[.int .i64 0, .int .i64 0, .slice none 0 0] 63)).alloc (.cells cs 75)).heap[w.heap.size + 1]? = some (.cells cs 75 (0, 0)) := by
    have := heap_alloc_new (w.alloc (Obj.cells #[.int .i64 0, .int .i64 0, .slice none 0 0] 63)) (.cells cs 75)
    simp only [World.size_alloc] at this
    exact this
  have hcl : cs.toList.length = n * 6 := by rw [hcs, entsC_len]; simp
  have O2 : Hid (((w.alloc (Obj.cells #[.int .i64 0, .int .i64 0, .slice none 0 0] 63)).alloc (.cells cs 75)).ownsRow (w.heap.size + 1) 75 6 (.slice (some ⟨w.heap.size + 1, 0, none⟩) n n) n (entsC (firstN 0 n es))) := by
    rw [firstN_start, ← hcs]
    exact ⟨hcl, .inr ⟨_, n, cs, rfl, Nat.le_refl _, hG, Nat.le_refl _, by unfold maxLen; omega, by rw [← hcl]; simp, List.take_of_length_le (by omega)⟩⟩
  have A2 := Below.step n1 nV (Nat.le_refl _)
  have K2 := hid_keep H1 nV
  have B2 : Below (w.heap.size + 1) ((w.alloc (Obj.cells #[.int .i64 0, .int .i64 0, .slice none 0 0] 63)).alloc (.cells cs 75)) ((w.alloc (Obj.cells #[.int .i64 0, .int .i64 0, .slice none 0 0] 63)).alloc (.cells cs 75)) := Below.refl _ _
  have l2 : ((w.alloc (Obj.cells #[.int .i64 0, .int .i64 0, .slice none 0 0] 63)).alloc (.cells cs 75)).heap.size = w.heap.size + 2 := by simp
  clear hG hcl hcs H1 n1 nV
  have e0 : w.heap.size ≠ b := by omega
  have e1 : w.heap.size + 1 ≠ b := by omega
  go_enter Try.func145, Try.ntmps145
  go_wp2_with fail
  generalize ((w.alloc (Obj.cells #[.int .i64 0, .int .i64 0, .slice none 0 0] 63)).alloc (.cells cs 75)) = v2 at O2 A2 K2 l2 B2 ⊢
  go_loopw [17] (fun i wr => ∃ k : Nat, k ≤ n ∧ i = .int .i64 k ∧ wr.ownsRow (w.heap.size + 1) 75 6 (.slice (some ⟨w.heap.size + 1, 0, none⟩) n n) n (entsC (firstN k n es)) ∧ Below (w.heap.size + 1) v2 wr) (fun i _ => n - (intOf i).toNat)
  case atStart => exact ⟨0, Nat.zero_le _, rfl, O2.out, B2⟩
  case round =>
    obtain ⟨k, hk, rfl, hO, hb⟩ := hrel
    have PO : Hid (wr.ownsRow (w.heap.size + 1) 75 6 (.slice (some ⟨w.heap.size + 1, 0, none⟩) n n) n (entsC (firstN k n es))) := hO
    have lg : w.heap.size + 1 < wr.heap.size := (own_at hO).2.2
    have A3 : Below w.heap.size w wr := A2.trans (hb.mono (by omega))
    have P1 : Hid (wr.heap[w.heap.size]? = some (.cells #[.int .i64 0, .int .i64 0, .slice none 0 0] 63 (0, 0))) := (hb.block w.heap.size (by omega)).trans K2.out
    clear hO
    have r0 : wr.cell? ⟨b, o, none⟩ = some (.int .i64 sets) := Below.cell2 A3 c0 hbl
    have r1 : wr.cell? ⟨b, o + 1, none⟩ = some (.int .i64 ways) := Below.cell2 A3 c1 hbl
    have r2 : wr.cell? ⟨b, o + 2, none⟩ = some (.slice (some ⟨g, 0, none⟩) n n) := Below.cell2 A3 c2 hbl
    by_cases hlt : k < n
    · obtain ⟨⟨vv, lv, tg, asd, gl, pt⟩, hx⟩ : ∃ x, es[k]? = some x := ⟨_, List.getElem?_eq_getElem (by rw [HN.out]; exact hlt)⟩
      have HXk : Hid (es[k]? = some ⟨vv, lv, tg, asd, gl, pt⟩) := hx
      have CE : ∀ j u, j < 6 → (slotC ⟨vv, lv, tg, asd, gl, pt⟩)[j]? = some u → wr.cell? ⟨g, k * 6 + j, none⟩ = some u := fun j u hj hu => slotRow_cell (HR.out.keep A3) HN.out k _ hx j u hj hu
      have g0 : wr.cell? ⟨g, k * 6, none⟩ = some (.int .i64 lv) := CE 0 _ (by omega) rfl
      have g1 : wr.cell? ⟨g, k * 6 + 1, none⟩ = some (.int .u64 tg) := CE 1 _ (by omega) rfl
      have g2 : wr.cell? ⟨g, k * 6 + 2, none⟩ = some (.int .u64 asd) := CE 2 _ (by omega) rfl
      have g3 : wr.cell? ⟨g, k * 6 + 3, none⟩ = some (.bool gl) := CE 3 _ (by omega) rfl
      have g4 : wr.cell? ⟨g, k * 6 + 4, none⟩ = some (.bool vv) := CE 4 _ (by omega) rfl
      have g5 : wr.cell? ⟨g, k * 6 + 5, none⟩ = some (.int .u64 pt) := CE 5 _ (by omega) rfl
      clear CE hx
      have n5 := (Below.refl wr.heap.size wr).alloc (Nat.le_refl _) (Obj.cells #[.int .i64 lv, .int .u64 tg, .int .u64 asd, .bool gl, .bool vv, .int .u64 pt] 167)
      go_wp2_with fail
      generalize wr.alloc (Obj.cells #[.int .i64 lv, .int .u64 tg, .int .u64 asd, .bool gl, .bool vv, .int .u64 pt] 167) = v5 at n5 ⊢
      refine (entryP_any lv tg asd pt gl vv v5).mono ?_
      rintro e v6 ⟨rfl, n6⟩
      have n56 := Below.step n5 n6 (Nat.le_refl _)
      have SO : Hid (v6.ownsRow (w.heap.size + 1) 75 6 (.slice (some ⟨w.heap.size + 1, 0, none⟩) n n) n (entsC (firstN k n es))) := own_below PO.out n56
      have B6 : Below (w.heap.size + 1) v2 v6 := hb.trans (n56.mono (by omega))
      have hfl : (entsC (firstN k n es)).length = n * 6 := by
        have := HN.out
        subst this
        rw [entsC_len, firstN_len _ _ (by omega)]
      clear g0 g1 g2 g3 g4 g5 r0 r1 r2 n5 n6 n56 hb A3
      have q0 := own_cell SO.out (k * 6) _ (List.getElem?_eq_getElem (by omega))
      have q1 := own_cell SO.out (k * 6 + 1) _ (List.getElem?_eq_getElem (by omega))
      have q2 := own_cell SO.out (k * 6 + 2) _ (List.getElem?_eq_getElem (by omega))
      have q3 := own_cell SO.out (k * 6 + 3) _ (List.getElem?_eq_getElem (by omega))
      have q4 := own_cell SO.out (k * 6 + 4) _ (List.getElem?_eq_getElem (by omega))
      have q5 := own_cell SO.out (k * 6 + 5) _ (List.getElem?_eq_getElem (by omega))
      generalize (entsC (firstN k n es))[k * 6]'_ = y0 at q0
      generalize (entsC (firstN k n es))[k * 6 + 1]'_ = y1 at q1
      generalize (entsC (firstN k n es))[k * 6 + 2]'_ = y2 at q2
      generalize (entsC (firstN k n es))[k * 6 + 3]'_ = y3 at q3
      generalize (entsC (firstN k n es))[k * 6 + 4]'_ = y4 at q4
      generalize (entsC (firstN k n es))[k * 6 + 5]'_ = y5 at q5
      have s0 := own_free SO.out (k * 6)
      have s1 := own_free SO.out (k * 6 + 1)
      have s2 := own_free SO.out (k * 6 + 2)
      have s3 := own_free SO.out (k * 6 + 3)
      have s4 := own_free SO.out (k * 6 + 4)
      have s5 := own_free SO.out (k * 6 + 5)
      go_wp2_with fail
      go_roundw
      case rel =>
        refine ⟨k + 1, by omega, by go_num, ?_, ?_⟩
        · have := HN.out
          subst this
          rw [firstN_next k es _ HXk.out, entsC_set _ _ _ (by rw [firstN_len _ _ (by omega)]; exact hlt)]
          exact own_store (own_store (own_store (own_store (own_store (own_store SO.out _ _) _ _) _ _) _ _) _ _) _ _
        · have hg1 : w.heap.size + 1 ≤ w.heap.size + 1 := Nat.le_refl _
          exact (((((B6.setCell (p := ⟨w.heap.size + 1, _, none⟩) hg1 _).setCell (p := ⟨w.heap.size + 1, _, none⟩) hg1 _).setCell (p := ⟨w.heap.size + 1, _, none⟩) hg1 _).setCell (p := ⟨w.heap.size + 1, _, none⟩) hg1 _).setCell (p := ⟨w.heap.size + 1, _, none⟩) hg1 _).setCell (p := ⟨w.heap.size + 1, _, none⟩) hg1 _
      case measure => simp [intOf]; omega
    · have hkn : k = n := by omega
      subst hkn
      obtain ⟨⟨d0, d1, d2⟩, f0, f1, f2⟩ := three_cells P1.out
      go_wp2_with fail
      go_region
      all_goals
        go_wp2_with fail
        refine bodyPost_ret (v := .agg #[.int .i64 sets, .int .i64 ways, .slice (some ⟨w.heap.size + 1, 0, none⟩) k k]) (by simp [results, Try.results145, go_sem, d0, d1, d2]) rfl ⟨⟨_, rfl, w.heap.size + 1, k, by simp only; rw [HN.out], ?_⟩, (bel3 A3 (Nat.le_refl _) _ _ _).drew⟩
        simp only
        rw [HN.out]
        have hO := PO.out
        have hq := HN.out
        subst hq
        rw [firstN_all] at hO
        exact own_low (own_drew (own_gb hO (gb3 wr w.heap.size _ _ _) (by omega))) (by omega)

end Go.Proofs.Ytgdcghpanaljdab
