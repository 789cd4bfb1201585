import Derived.Test.YthekickjjaleaabPack10
import Derived.Test.YthekickjjaleaabPack08
import Derived.BigRegion
import Derived.Test.YthekickjjaleaabPack12
/- The program's entry and tlb, for one kind of cache. Written by mk4.py. -/
namespace Go.Proofs.Ythekickjjaleaab
open Go.RowKit
set_option linter.unusedVariables false
attribute [local go_sem ↓] Go.wp_at_zero Go.wp_at_succ

theorem entryP_any (lv tg asd pt : Int) (gl vv : Bool) (w : World) :
    Calls Try.prog 157 #[.agg #[.int .i64 lv, .int .u64 tg, .int .u64 asd, .bool gl, .bool vv, .int .u64 pt]] w fun e w' => e = .returned (.agg #[.bool vv, .int .i64 lv, .int .u64 tg, .int .u64 asd, .bool gl, .int .u64 pt]) ∧ Below w.heap.size w w' := by
  have n1 := ((Below.refl w.heap.size w).alloc (Nat.le_refl _) (Obj.cells #[.int .i64 lv, .int .u64 tg, .int .u64 asd, .bool gl, .bool vv, .int .u64 pt] 167)).alloc (by simp) (Obj.cells #[.bool vv, .int .i64 lv, .int .u64 tg, .int .u64 asd, .bool gl, .int .u64 pt] 75)
  go_enter Try.func157, Try.ntmps157
  go_wp2_with fail
  exact bodyPost_ret (v := .agg #[.bool vv, .int .i64 lv, .int .u64 tg, .int .u64 asd, .bool gl, .int .u64 pt]) (by simp [results, Try.results157, go_sem]) rfl ⟨rfl, n1⟩

set_option maxRecDepth 20000 in
set_option maxHeartbeats 3200000 in
theorem tlbP_any (b o g n : Nat) (t : TlbM) (w : World) (hn : t.es.length = n) (hn1 : n ≤ 1048576) (hbl : b < w.heap.size) (hgl : g < w.heap.size)
    (c0 : w.cell? ⟨b, o, none⟩ = some (.int .i64 t.sets)) (c1 : w.cell? ⟨b, o + 1, none⟩ = some (.int .i64 t.ways)) (c2 : w.cell? ⟨b, o + 2, none⟩ = some (.slice (some ⟨g, 0, none⟩) n n)) (hr : RowC w (some ⟨g, 0, none⟩) n 6 (slotsC t.es)) :
    Calls Try.prog 145 #[.pointer (some ⟨b, o, none⟩)] w fun e w' => (∃ x, e = .returned x ∧ TlbOwn w.heap.size w' x t) ∧ Below w.heap.size w w' := by
  have HR : Hid (RowC w (some ⟨g, 0, none⟩) n 6 (slotsC t.es)) := hr
  have HN : Hid (t.es.length = n) := hn
  obtain ⟨sets, ways, es⟩ := t
  simp only at c0 c1 c2 HR HN
  clear hr hn
  obtain ⟨cs, hcs, hmk⟩ := makeE n hn1
  have n1 := (Below.refl w.heap.size w).alloc (Nat.le_refl _) (Obj.cells #[.int .i64 0, .int .i64 0, .slice none 0 0] 63)
  have H1 : Hid ((w.alloc (Obj.cells #[.int .i64 0, .int .i64 0, .slice none 0 0] 63)).heap[w.heap.size]? = some (.cells #[.int .i64 0, .int .i64 0, .slice none 0 0] 63 (0, 0))) := heap_alloc_new w _
  have l1 : (w.alloc (Obj.cells #[.int .i64 0, .int .i64 0, .slice none 0 0] 63)).heap.size = w.heap.size + 1 := by simp
  have nV : Below (w.alloc (Obj.cells #[.int .i64 0, .int .i64 0, .slice none 0 0] 63)).heap.size (w.alloc (Obj.cells #[.int .i64 0, .int .i64 0, .slice none 0 0] 63)) ((w.alloc (Obj.cells #[.int .i64 0, .int .i64 0, .slice none 0 0] 63)).alloc (.cells cs 75)) := (Below.refl _ _).alloc (Nat.le_refl _) _
  have hG : ((w.alloc (Obj.cells #[.int .i64 0, .int .i64 0, .slice none 0 0] 63)).alloc (.cells cs 75)).heap[w.heap.size + 1]? = some (.cells cs 75 (0, 0)) := by
    have := heap_alloc_new (w.alloc (Obj.cells #[.int .i64 0, .int .i64 0, .slice none 0 0] 63)) (.cells cs 75)
    simp only [World.size_alloc] at this
    exact this
  have hcl : cs.toList.length = n * 6 := by rw [hcs, entsC_len]; simp
  have O2 : Hid (((w.alloc (Obj.cells #[.int .i64 0, .int .i64 0, .slice none 0 0] 63)).alloc (.cells cs 75)).ownsRow (w.heap.size + 1) 75 6 (.slice (some ⟨w.heap.size + 1, 0, none⟩) n n) n (entsC (firstN 0 n es))) := by
    rw [firstN_start, ← hcs]
    exact ⟨hcl, .inr ⟨_, n, cs, rfl, Nat.le_refl _, hG, Nat.le_refl _, by unfold maxLen; omega, by rw [← hcl]; simp, List.take_of_length_le (by omega)⟩⟩
  have A2 := Below.step n1 nV (Nat.le_refl _)
  have K2 := hid_keep H1 nV
  have B2 : Below (w.heap.size + 1) ((w.alloc (Obj.cells #[.int .i64 0, .int .i64 0, .slice none 0 0] 63)).alloc (.cells cs 75)) ((w.alloc (Obj.cells #[.int .i64 0, .int .i64 0, .slice none 0 0] 63)).alloc (.cells cs 75)) := Below.refl _ _
  have l2 : ((w.alloc (Obj.cells #[.int .i64 0, .int .i64 0, .slice none 0 0] 63)).alloc (.cells cs 75)).heap.size = w.heap.size + 2 := by simp
  clear hG hcl hcs H1 n1 nV
  have e0 : w.heap.size ≠ b := by omega
  have e1 : w.heap.size + 1 ≠ b := by omega
  go_enter Try.func145, Try.ntmps145
  go_wp2_with fail
  generalize ((w.alloc (Obj.cells #[.int .i64 0, .int .i64 0, .slice none 0 0] 63)).alloc (.cells cs 75)) = v2 at O2 A2 K2 l2 B2 ⊢
  go_loopw [17] (fun i wr => ∃ k : Nat, k ≤ n ∧ i = .int .i64 k ∧ wr.ownsRow (w.heap.size + 1) 75 6 (.slice (some ⟨w.heap.size + 1, 0, none⟩) n n) n (entsC (firstN k n es)) ∧ Below (w.heap.size + 1) v2 wr) (fun i _ => n - (intOf i).toNat)
  case atStart => exact ⟨0, Nat.zero_le _, rfl, O2.out, B2⟩
  case round =>
    obtain ⟨k, hk, rfl, hO, hb⟩ := hrel
    have PO : Hid (wr.ownsRow (w.heap.size + 1) 75 6 (.slice (some ⟨w.heap.size + 1, 0, none⟩) n n) n (entsC (firstN k n es))) := hO
    have lg : w.heap.size + 1 < wr.heap.size := (own_at hO).2.2
    have A3 : Below w.heap.size w wr := A2.trans (hb.mono (by omega))
    have P1 : Hid (wr.heap[w.heap.size]? = some (.cells #[.int .i64 0, .int .i64 0, .slice none 0 0] 63 (0, 0))) := (hb.block w.heap.size (by omega)).trans K2.out
    clear hO
    have r0 : wr.cell? ⟨b, o, none⟩ = some (.int .i64 sets) := Below.cell2 A3 c0 hbl
    have r1 : wr.cell? ⟨b, o + 1, none⟩ = some (.int .i64 ways) := Below.cell2 A3 c1 hbl
    have r2 : wr.cell? ⟨b, o + 2, none⟩ = some (.slice (some ⟨g, 0, none⟩) n n) := Below.cell2 A3 c2 hbl
    by_cases hlt : k < n
    · obtain ⟨⟨vv, lv, tg, asd, gl, pt⟩, hx⟩ : ∃ x, es[k]? = some x := ⟨_, List.getElem?_eq_getElem (by rw [HN.out]; exact hlt)⟩
      have HXk : Hid (es[k]? = some ⟨vv, lv, tg, asd, gl, pt⟩) := hx
      have CE : ∀ j u, j < 6 → (slotC ⟨vv, lv, tg, asd, gl, pt⟩)[j]? = some u → wr.cell? ⟨g, k * 6 + j, none⟩ = some u := fun j u hj hu => slotRow_cell (HR.out.keep A3) HN.out k _ hx j u hj hu
      have g0 : wr.cell? ⟨g, k * 6, none⟩ = some (.int .i64 lv) := CE 0 _ (by omega) rfl
      have g1 : wr.cell? ⟨g, k * 6 + 1, none⟩ = some (.int .u64 tg) := CE 1 _ (by omega) rfl
      have g2 : wr.cell? ⟨g, k * 6 + 2, none⟩ = some (.int .u64 asd) := CE 2 _ (by omega) rfl
      have g3 : wr.cell? ⟨g, k * 6 + 3, none⟩ = some (.bool gl) := CE 3 _ (by omega) rfl
      have g4 : wr.cell? ⟨g, k * 6 + 4, none⟩ = some (.bool vv) := CE 4 _ (by omega) rfl
      have g5 : wr.cell? ⟨g, k * 6 + 5, none⟩ = some (.int .u64 pt) := CE 5 _ (by omega) rfl
      clear CE hx
      have n5 := (Below.refl wr.heap.size wr).alloc (Nat.le_refl _) (Obj.cells #[.int .i64 lv, .int .u64 tg, .int .u64 asd, .bool gl, .bool vv, .int .u64 pt] 167)
      go_wp2_with fail
      generalize wr.alloc (Obj.cells #[.int .i64 lv, .int .u64 tg, .int .u64 asd, .bool gl, .bool vv, .int .u64 pt] 167) = v5 at n5 ⊢
      refine (entryP_any lv tg asd pt gl vv v5).mono ?_
      rintro e v6 ⟨rfl, n6⟩
      have n56 := Below.step n5 n6 (Nat.le_refl _)
      have SO : Hid (v6.ownsRow (w.heap.size + 1) 75 6 (.slice (some ⟨w.heap.size + 1, 0, none⟩) n n) n (entsC (firstN k n es))) := own_below PO.out n56
      have B6 : Below (w.heap.size + 1) v2 v6 := hb.trans (n56.mono (by omega))
      have hfl : (entsC (firstN k n es)).length = n * 6 := by
        have := HN.out
        subst this
        rw [entsC_len, firstN_len _ _ (by omega)]
      clear g0 g1 g2 g3 g4 g5 r0 r1 r2 n5 n6 n56 hb A3
      have q0 := own_cell SO.out (k * 6) _ (List.getElem?_eq_getElem (by omega))
      have q1 := own_cell SO.out (k * 6 + 1) _ (List.getElem?_eq_getElem (by omega))
      have q2 := own_cell SO.out (k * 6 + 2) _ (List.getElem?_eq_getElem (by omega))
      have q3 := own_cell SO.out (k * 6 + 3) _ (List.getElem?_eq_getElem (by omega))
      have q4 := own_cell SO.out (k * 6 + 4) _ (List.getElem?_eq_getElem (by omega))
      have q5 := own_cell SO.out (k * 6 + 5) _ (List.getElem?_eq_getElem (by omega))
      generalize (entsC (firstN k n es))[k * 6]'_ = y0 at q0
      generalize (entsC (firstN k n es))[k * 6 + 1]'_ = y1 at q1
      generalize (entsC (firstN k n es))[k * 6 + 2]'_ = y2 at q2
      generalize (entsC (firstN k n es))[k * 6 + 3]'_ = y3 at q3
      generalize (entsC (firstN k n es))[k * 6 + 4]'_ = y4 at q4
      generalize (entsC (firstN k n es))[k * 6 + 5]'_ = y5 at q5
      have s0 := own_free SO.out (k * 6)
      have s1 := own_free SO.out (k * 6 + 1)
      have s2 := own_free SO.out (k * 6 + 2)
      have s3 := own_free SO.out (k * 6 + 3)
      have s4 := own_free SO.out (k * 6 + 4)
      have s5 := own_free SO.out (k * 6 + 5)
      go_wp2_with fail
      go_roundw
      case rel =>
        refine ⟨k + 1, by omega, by go_num, ?_, ?_⟩
        · have := HN.out
          subst this
          rw [firstN_next k es _ HXk.out, entsC_set _ _ _ (by rw [firstN_len _ _ (by omega)]; exact hlt)]
          exact own_store (own_store (own_store (own_store (own_store (own_store SO.out _ _) _ _) _ _) _ _) _ _) _ _
        · have hg1 : w.heap.size + 1 ≤ w.heap.size + 1 := Nat.le_refl _
          exact (((((B6.setCell (p := ⟨w.heap.size + 1, _, none⟩) hg1 _).setCell (p := ⟨w.heap.size + 1, _, none⟩) hg1 _).setCell (p := ⟨w.heap.size + 1, _, none⟩) hg1 _).setCell (p := ⟨w.heap.size + 1, _, none⟩) hg1 _).setCell (p := ⟨w.heap.size + 1, _, none⟩) hg1 _).setCell (p := ⟨w.heap.size + 1, _, none⟩) hg1 _
      case measure => simp [intOf]; omega
    · have hkn : k = n := by omega
      subst hkn
      obtain ⟨⟨d0, d1, d2⟩, f0, f1, f2⟩ := three_cells P1.out
      go_wp2_with fail
      go_region
      all_goals
        go_wp2_with fail
        refine bodyPost_ret (v := .agg #[.int .i64 sets, .int .i64 ways, .slice (some ⟨w.heap.size + 1, 0, none⟩) k k]) (by simp [results, Try.results145, go_sem, d0, d1, d2]) rfl ⟨⟨_, rfl, w.heap.size + 1, k, by simp only; rw [HN.out], ?_⟩, (bel3 A3 (Nat.le_refl _) _ _ _).drew⟩
        simp only
        rw [HN.out]
        have hO := PO.out
        have hq := HN.out
        subst hq
        rw [firstN_all] at hO
        exact own_low (own_drew (own_gb hO (gb3 wr w.heap.size _ _ _) (by omega))) (by omega)

end Go.Proofs.Ythekickjjaleaab

/- The program's flush, for one kind of cache and both kinds of function values. Written by mk4.py. -/
namespace Go.Proofs.Ythekickjjaleaab
open Go.RowKit
set_option linter.unusedVariables false
attribute [local go_sem ↓] Go.wp_at_zero Go.wp_at_succ

set_option maxRecDepth 20000 in
set_option maxHeartbeats 3200000 in
theorem flushBP_any (hv : Bool) (fva : Int) (ha : Bool) (fa : Int) (pf pv b o g n base : Nat) (es : List EntM) (sets ways : Int) (w : World) (hn : es.length = n) (hn1 : n ≤ 1048576) (hbl : b < w.heap.size) (hbg : b ≠ g) (hv0 : 0 ≤ fva) (hv1 : fva ≤ 18446744073709551615) (hcan : hv = false ∨ canonM fva = true) (hpf : pf ≠ g) (hpv : pv ≠ g) (hF : w.heap[pf]? = some (.cells #[.bool hv, .int .u64 fva, .bool ha, .int .u64 fa] 82 (0, 0))) (hV : w.heap[pv]? = some (.cells #[.int .u64 fva] 94 (0, 0)))
    (c2 : w.cell? ⟨b, o + 2, none⟩ = some (.slice (some ⟨g, 0, none⟩) n n)) (ho : w.ownsRow base 167 6 (.slice (some ⟨g, 0, none⟩) n n) n (slotsC es)) (hlv : ∀ (j : Nat) (x : EntM), es[j]? = some x → x.valid = true → 0 ≤ x.level ∧ x.level ≤ 2) :
    Calls Try.prog 150 #[.pointer (some ⟨b, o, none⟩), .func (.func 147) #[] #[.pointer (some ⟨pf, 0, none⟩), .pointer (some ⟨pv, 0, none⟩)]] w fun x w' => x = .returned (.tuple #[]) ∧ w'.ownsRow base 167 6 (.slice (some ⟨g, 0, none⟩) n n) n (slotsC (es.map (struckM ⟨hv, fva, ha, fa⟩))) ∧ w.grownBy w' (some g) := by
  have HO : Hid (w.ownsRow base 167 6 (.slice (some ⟨g, 0, none⟩) n n) n (slotsC es)) := ho
  have HN : Hid (es.length = n) := hn
  have HLv : Hid (∀ (j : Nat) (x : EntM), es[j]? = some x → x.valid = true → 0 ≤ x.level ∧ x.level ≤ 2) := hlv
  have hg := (own_at ho).2.2
  simp only at hg
  clear ho hn hlv
  go_enter Try.func150, Try.ntmps150
  go_wp2_with fail
  go_loopw [11] (fun i wr => ∃ k : Nat, k ≤ n ∧ i = .int .i64 k ∧ w.grownBy wr (some g) ∧ wr.ownsRow base 167 6 (.slice (some ⟨g, 0, none⟩) n n) n (slotsC (struckN ⟨hv, fva, ha, fa⟩ k es))) (fun i _ => n - (intOf i).toNat)
  case atStart => exact ⟨0, Nat.zero_le _, rfl, gb_refl _ _, by rw [show struckN ⟨hv, fva, ha, fa⟩ 0 es = es by simp [struckN]]; exact HO.out⟩
  case round =>
    obtain ⟨k, hk, rfl, hgb, hO⟩ := hrel
    have PO : Hid (wr.ownsRow base 167 6 (.slice (some ⟨g, 0, none⟩) n n) n (slotsC (struckN ⟨hv, fva, ha, fa⟩ k es))) := hO
    have lr : w.heap.size ≤ wr.heap.size := hgb.size
    have hfl : (slotsC (struckN ⟨hv, fva, ha, fa⟩ k es)).length = n * 6 := hO.1
    clear hO
    have r2 : wr.cell? ⟨b, o + 2, none⟩ = some (.slice (some ⟨g, 0, none⟩) n n) := gb_cell hgb c2 hbl hbg
    by_cases hlt : k < n
    · obtain ⟨⟨vv, lv, tg, asd, gl, pt⟩, hx⟩ : ∃ x, es[k]? = some x := ⟨_, List.getElem?_eq_getElem (by rw [HN.out]; exact hlt)⟩
      have hx' : (struckN ⟨hv, fva, ha, fa⟩ k es)[k]? = some ⟨vv, lv, tg, asd, gl, pt⟩ := by
        first
          | exact hx
          | (unfold struckN
             have hkl : k ≤ es.length := by rw [HN.out]; omega
             rw [List.getElem?_append_right (by simp; omega), List.length_map, List.length_take, Nat.min_eq_left hkl, Nat.sub_self, List.getElem?_drop, Nat.add_zero, hx])
      have HXk : Hid (es[k]? = some ⟨vv, lv, tg, asd, gl, pt⟩) := hx
      have CE : ∀ j u, j < 6 → (slotC ⟨vv, lv, tg, asd, gl, pt⟩)[j]? = some u → wr.cell? ⟨g, k * 6 + j, none⟩ = some u := fun j u hj hu => slot_cell PO.out (by have := hfl; rw [slotsC_len] at this; omega) k _ hx' j u hj hu
      have g0 : wr.cell? ⟨g, k * 6, none⟩ = some (.int .i64 lv) := CE 0 _ (by omega) rfl
      have g1 : wr.cell? ⟨g, k * 6 + 1, none⟩ = some (.int .u64 tg) := CE 1 _ (by omega) rfl
      have g2 : wr.cell? ⟨g, k * 6 + 2, none⟩ = some (.int .u64 asd) := CE 2 _ (by omega) rfl
      have g3 : wr.cell? ⟨g, k * 6 + 3, none⟩ = some (.bool gl) := CE 3 _ (by omega) rfl
      have g4 : wr.cell? ⟨g, k * 6 + 4, none⟩ = some (.bool vv) := CE 4 _ (by omega) rfl
      have g5 : wr.cell? ⟨g, k * 6 + 5, none⟩ = some (.int .u64 pt) := CE 5 _ (by omega) rfl
      have HNx : Hid _ := struckN_next ⟨hv, fva, ha, fa⟩ k es _ hx
      have HSm : Hid ((struckN ⟨hv, fva, ha, fa⟩ k es).set k ⟨vv, lv, tg, asd, gl, pt⟩ = struckN ⟨hv, fva, ha, fa⟩ k es) := by
        show _ = _
        apply List.ext_getElem?
        intro j
        rw [List.getElem?_set]
        by_cases hj : k = j
        · subst hj
          have hkl := (List.getElem?_eq_some_iff.1 hx').1
          rw [if_pos rfl, if_pos hkl, hx']
        · rw [if_neg hj]
      have HLx : Hid (vv = true → 0 ≤ lv ∧ lv ≤ 2) := fun h => HLv.out k _ hx h
      clear CE hx hx'
      have n5 := (Below.refl wr.heap.size wr).alloc (Nat.le_refl _) (Obj.cells #[.int .i64 lv, .int .u64 tg, .int .u64 asd, .bool gl, .bool vv, .int .u64 pt] 167)
      have hgb5 := gb_below hgb n5
      cases vv
      · have hst : struckM ⟨hv, fva, ha, fa⟩ ⟨false, lv, tg, asd, gl, pt⟩ = ⟨false, lv, tg, asd, gl, pt⟩ := by simp [struckM]
        go_wp2_with fail
        go_roundw
        case rel => exact ⟨k + 1, by omega, by go_num, hgb5, by rw [HNx.out, hst, HSm.out]; exact own_below PO.out n5⟩
        case measure => simp [intOf]; omega
      · obtain ⟨hl0, hl2⟩ := HLx.out rfl
        obtain ⟨cb, hcb⟩ : ∃ cb, coversM ⟨hv, fva, ha, fa⟩ lv tg asd gl = cb := ⟨_, rfl⟩
        have hst : struckM ⟨hv, fva, ha, fa⟩ ⟨true, lv, tg, asd, gl, pt⟩ = if cb = true then ent0 else ⟨true, lv, tg, asd, gl, pt⟩ := by simp [struckM, hcb]
        have HSt : Hid _ := hst
        have HCv : Hid (∀ u : World, u.heap[pf]? = some (.cells #[.bool hv, .int .u64 fva, .bool ha, .int .u64 fa] 82 (0, 0)) → u.heap[pv]? = some (.cells #[.int .u64 fva] 94 (0, 0)) → Calls Try.prog 147 #[.agg #[.int .i64 lv, .int .u64 tg, .int .u64 asd, .bool gl], .pointer (some ⟨pf, 0, none⟩), .pointer (some ⟨pv, 0, none⟩)] u fun e w' => e = .returned (.bool cb) ∧ Below u.heap.size u w') := fun u h1 h2 => by
          have := cover2_any hv fva ha fa lv tg asd gl pf pv u (by omega) hv0 hv1 h1 h2
          rw [covB_covers _ _ _ _ _ hcan, hcb] at this
          exact this
        have F5 := heap_gb hF hgb5 hpf
        have V5 := heap_gb hV hgb5 hpv
        clear hcb hst
        go_wp2_with fail
        generalize wr.alloc (Obj.cells #[.int .i64 lv, .int .u64 tg, .int .u64 asd, .bool gl, .bool true, .int .u64 pt] 167) = v5 at n5 hgb5 F5 V5 ⊢
        refine (HCv.out v5 F5 V5).mono ?_
        rintro e v6 ⟨rfl, n6⟩
        have n56 := Below.step n5 n6 (Nat.le_refl _)
        have hgb6 := gb_below hgb n56
        have SO : Hid (v6.ownsRow base 167 6 (.slice (some ⟨g, 0, none⟩) n n) n (slotsC (struckN ⟨hv, fva, ha, fa⟩ k es))) := own_below PO.out n56
        clear g0 g1 g2 g3 g4 g5 r2 F5 V5 n5 n6 hgb5 hgb
        have r2 : v6.cell? ⟨b, o + 2, none⟩ = some (.slice (some ⟨g, 0, none⟩) n n) := gb_cell hgb6 c2 hbl hbg
        cases cb
        · go_wp2_with fail
          go_roundw
          case rel => exact ⟨k + 1, by omega, by go_num, hgb6, by rw [HNx.out, HSt.out]; simp only [Bool.false_eq_true, if_false]; rw [HSm.out]; exact SO.out⟩
          case measure => simp [intOf]; omega
        ·
          have q0 := own_cell SO.out (k * 6) _ (List.getElem?_eq_getElem (by omega))
          have q1 := own_cell SO.out (k * 6 + 1) _ (List.getElem?_eq_getElem (by omega))
          have q2 := own_cell SO.out (k * 6 + 2) _ (List.getElem?_eq_getElem (by omega))
          have q3 := own_cell SO.out (k * 6 + 3) _ (List.getElem?_eq_getElem (by omega))
          have q4 := own_cell SO.out (k * 6 + 4) _ (List.getElem?_eq_getElem (by omega))
          have q5 := own_cell SO.out (k * 6 + 5) _ (List.getElem?_eq_getElem (by omega))
          generalize (slotsC (struckN ⟨hv, fva, ha, fa⟩ k es))[k * 6]'_ = y0 at q0
          generalize (slotsC (struckN ⟨hv, fva, ha, fa⟩ k es))[k * 6 + 1]'_ = y1 at q1
          generalize (slotsC (struckN ⟨hv, fva, ha, fa⟩ k es))[k * 6 + 2]'_ = y2 at q2
          generalize (slotsC (struckN ⟨hv, fva, ha, fa⟩ k es))[k * 6 + 3]'_ = y3 at q3
          generalize (slotsC (struckN ⟨hv, fva, ha, fa⟩ k es))[k * 6 + 4]'_ = y4 at q4
          generalize (slotsC (struckN ⟨hv, fva, ha, fa⟩ k es))[k * 6 + 5]'_ = y5 at q5
          have s0 := own_free SO.out (k * 6)
          have s1 := own_free SO.out (k * 6 + 1)
          have s2 := own_free SO.out (k * 6 + 2)
          have s3 := own_free SO.out (k * 6 + 3)
          have s4 := own_free SO.out (k * 6 + 4)
          have s5 := own_free SO.out (k * 6 + 5)
          go_wp2_with fail
          go_roundw
          case rel =>
            refine ⟨k + 1, by omega, by go_num, gb_set (gb_set (gb_set (gb_set (gb_set (gb_set hgb6 _ _) _ _) _ _) _ _) _ _) _ _, ?_⟩
            rw [HNx.out, HSt.out, if_pos (by trivial), slotsC_set _ _ _ (by rw [struckN_len, HN.out]; exact hlt)]
            exact own_store (own_store (own_store (own_store (own_store (own_store SO.out _ _) _ _) _ _) _ _) _ _) _ _
          case measure => simp [intOf]; omega
    · have hkn : k = n := by omega
      subst hkn
      go_wp2_with fail
      go_end0
      refine ⟨rfl, ?_, hgb⟩
      have hO := PO.out
      have hsn : struckN ⟨hv, fva, ha, fa⟩ k es = es.map (struckM ⟨hv, fva, ha, fa⟩) := by
        have hq : es.length = k := HN.out
        unfold struckN
        rw [← hq, List.take_length, List.drop_length, List.append_nil]
      rw [hsn] at hO
      exact hO

set_option maxRecDepth 20000 in
set_option maxHeartbeats 3200000 in
theorem flushAP_any (hv : Bool) (fva : Int) (ha : Bool) (fa : Int) (pf pv b o g n base : Nat) (es : List EntM) (sets ways : Int) (w : World) (hn : es.length = n) (hn1 : n ≤ 1048576) (hbl : b < w.heap.size) (hbg : b ≠ g) 
    (c2 : w.cell? ⟨b, o + 2, none⟩ = some (.slice (some ⟨g, 0, none⟩) n n)) (ho : w.ownsRow base 167 6 (.slice (some ⟨g, 0, none⟩) n n) n (slotsC es)) (hlv : ∀ (j : Nat) (x : EntM), es[j]? = some x → x.valid = true → 0 ≤ x.level ∧ x.level ≤ 2) :
    Calls Try.prog 150 #[.pointer (some ⟨b, o, none⟩), .func (.func 146) #[] #[]] w fun x w' => x = .returned (.tuple #[]) ∧ w'.ownsRow base 167 6 (.slice (some ⟨g, 0, none⟩) n n) n (slotsC (es)) ∧ w.grownBy w' (some g) := by
  have HO : Hid (w.ownsRow base 167 6 (.slice (some ⟨g, 0, none⟩) n n) n (slotsC es)) := ho
  have HN : Hid (es.length = n) := hn
  have HLv : Hid (∀ (j : Nat) (x : EntM), es[j]? = some x → x.valid = true → 0 ≤ x.level ∧ x.level ≤ 2) := hlv
  have hg := (own_at ho).2.2
  simp only at hg
  clear ho hn hlv
  go_enter Try.func150, Try.ntmps150
  go_wp2_with fail
  go_loopw [11] (fun i wr => ∃ k : Nat, k ≤ n ∧ i = .int .i64 k ∧ w.grownBy wr (some g) ∧ wr.ownsRow base 167 6 (.slice (some ⟨g, 0, none⟩) n n) n (slotsC (es))) (fun i _ => n - (intOf i).toNat)
  case atStart => exact ⟨0, Nat.zero_le _, rfl, gb_refl _ _, HO.out⟩
  case round =>
    obtain ⟨k, hk, rfl, hgb, hO⟩ := hrel
    have PO : Hid (wr.ownsRow base 167 6 (.slice (some ⟨g, 0, none⟩) n n) n (slotsC (es))) := hO
    have lr : w.heap.size ≤ wr.heap.size := hgb.size
    have hfl : (slotsC (es)).length = n * 6 := hO.1
    clear hO
    have r2 : wr.cell? ⟨b, o + 2, none⟩ = some (.slice (some ⟨g, 0, none⟩) n n) := gb_cell hgb c2 hbl hbg
    by_cases hlt : k < n
    · obtain ⟨⟨vv, lv, tg, asd, gl, pt⟩, hx⟩ : ∃ x, es[k]? = some x := ⟨_, List.getElem?_eq_getElem (by rw [HN.out]; exact hlt)⟩
      have hx' : (es)[k]? = some ⟨vv, lv, tg, asd, gl, pt⟩ := by
        first
          | exact hx
          | (unfold struckN
             have hkl : k ≤ es.length := by rw [HN.out]; omega
             rw [List.getElem?_append_right (by simp; omega), List.length_map, List.length_take, Nat.min_eq_left hkl, Nat.sub_self, List.getElem?_drop, Nat.add_zero, hx])
      have HXk : Hid (es[k]? = some ⟨vv, lv, tg, asd, gl, pt⟩) := hx
      have CE : ∀ j u, j < 6 → (slotC ⟨vv, lv, tg, asd, gl, pt⟩)[j]? = some u → wr.cell? ⟨g, k * 6 + j, none⟩ = some u := fun j u hj hu => slot_cell PO.out (by have := hfl; rw [slotsC_len] at this; omega) k _ hx' j u hj hu
      have g0 : wr.cell? ⟨g, k * 6, none⟩ = some (.int .i64 lv) := CE 0 _ (by omega) rfl
      have g1 : wr.cell? ⟨g, k * 6 + 1, none⟩ = some (.int .u64 tg) := CE 1 _ (by omega) rfl
      have g2 : wr.cell? ⟨g, k * 6 + 2, none⟩ = some (.int .u64 asd) := CE 2 _ (by omega) rfl
      have g3 : wr.cell? ⟨g, k * 6 + 3, none⟩ = some (.bool gl) := CE 3 _ (by omega) rfl
      have g4 : wr.cell? ⟨g, k * 6 + 4, none⟩ = some (.bool vv) := CE 4 _ (by omega) rfl
      have g5 : wr.cell? ⟨g, k * 6 + 5, none⟩ = some (.int .u64 pt) := CE 5 _ (by omega) rfl
      have HSm : Hid ((es).set k ⟨vv, lv, tg, asd, gl, pt⟩ = es) := by
        show _ = _
        apply List.ext_getElem?
        intro j
        rw [List.getElem?_set]
        by_cases hj : k = j
        · subst hj
          have hkl := (List.getElem?_eq_some_iff.1 hx').1
          rw [if_pos rfl, if_pos hkl, hx']
        · rw [if_neg hj]
      have HLx : Hid (vv = true → 0 ≤ lv ∧ lv ≤ 2) := fun h => HLv.out k _ hx h
      clear CE hx hx'
      have n5 := (Below.refl wr.heap.size wr).alloc (Nat.le_refl _) (Obj.cells #[.int .i64 lv, .int .u64 tg, .int .u64 asd, .bool gl, .bool vv, .int .u64 pt] 167)
      have hgb5 := gb_below hgb n5
      cases vv
      · go_wp2_with fail
        go_roundw
        case rel => exact ⟨k + 1, by omega, by go_num, hgb5, own_below PO.out n5⟩
        case measure => simp [intOf]; omega
      · go_wp2_with fail
        generalize wr.alloc (Obj.cells #[.int .i64 lv, .int .u64 tg, .int .u64 asd, .bool gl, .bool true, .int .u64 pt] 167) = v5 at n5 hgb5 ⊢
        refine (cover1_any lv tg asd gl v5).mono ?_
        rintro e v6 ⟨rfl, n6⟩
        have n56 := Below.step n5 n6 (Nat.le_refl _)
        have hgb6 := gb_below hgb n56
        go_wp2_with fail
        go_roundw
        case rel => exact ⟨k + 1, by omega, by go_num, hgb6, own_below PO.out n56⟩
        case measure => simp [intOf]; omega
    · have hkn : k = n := by omega
      subst hkn
      go_wp2_with fail
      go_end0
      refine ⟨rfl, ?_, hgb⟩
      have hO := PO.out
      exact hO

end Go.Proofs.Ythekickjjaleaab
