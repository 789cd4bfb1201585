/- The program's flush, for one kind of cache and both kinds of function values. Written by mk4.py. -/
import Derived.Test.YtgdcghpanaljdabTlbL
import Derived.Test.YtgdcghpanaljdabImpl4c
namespace Go.Proofs.Ytgdcghpanaljdab
open Go.RowKit
set_option linter.unusedVariables false
attribute [local go_sem ↓] Go.wp_at_zero Go.wp_at_succ

set_option maxRecDepth 20000 in
set_option maxHeartbeats 3200000 in
theorem flushBL_any (hv : Bool) (fva : Int) (ha : Bool) (fa : Int) (pf pv b o g n base : Nat) (es : List EntM) (sets ways : Int) (w : World) (hn : es.length = n) (hn1 : n ≤ 1048576) (hbl : b < w.heap.size) (hbg : b ≠ g) (hv0 : 0 ≤ fva) (hv1 : fva ≤ 18446744073709551615) (hcan : hv = false ∨ canonM fva = true) (hpf : pf ≠ g) (hpv : pv ≠ g) (hF : w.heap[pf]? = some (.cells #[.bool hv, .int .u64 fva, .bool ha, .int .u64 fa] 82 (0, 0))) (hV : w.heap[pv]? = some (.cells #[.int .u64 fva] 94 (0, 0)))
    (c2 : w.cell? ⟨b, o + 2, none⟩ = some (.slice (some ⟨g, 0, none⟩) n n)) (ho : w.ownsRow base 172 6 (.slice (some ⟨g, 0, none⟩) n n) n (slotsC es)) (hlv : ∀ (j : Nat) (x : EntM), es[j]? = some x → x.valid = true → 0 ≤ x.level ∧ x.level ≤ 2) :
    Calls Try.prog 149 #[.pointer (some ⟨b, o, none⟩), .func (.func 147) #[] #[.pointer (some ⟨pf, 0, none⟩), .pointer (some ⟨pv, 0, none⟩)]] w fun x w' => x = .returned (.tuple #[]) ∧ w'.ownsRow base 172 6 (.slice (some ⟨g, 0, none⟩) n n) n (slotsC (es.map (struckM ⟨hv, fva, ha, fa⟩))) ∧ w.grownBy w' (some g) := by
  have HO : Hid (w.ownsRow base 172 6 (.slice (some ⟨g, 0, none⟩) n n) n (slotsC es)) := ho
  have HN : Hid (es.length = n) := hn
  have HLv : Hid (∀ (j : Nat) (x : EntM), es[j]? = some x → x.valid = true → 0 ≤ x.level ∧ x.level ≤ 2) := hlv
  have hg := (own_at ho).2.2
  simp only at hg
  clear ho hn hlv
  go_enter Try.func149, Try.ntmps149
  go_wp2_with fail
  go_loopw [11] (fun i wr => ∃ k : Nat, k ≤ n ∧ i = .int .i64 k ∧ w.grownBy wr (some g) ∧ wr.ownsRow base 172 6 (.slice (some ⟨g, 0, none⟩) n n) n (slotsC (struckN ⟨hv, fva, ha, fa⟩ k es))) (fun i _ => n - (intOf i).toNat)
  case atStart => exact ⟨0, Nat.zero_le _, rfl, gb_refl _ _, by rw [show struckN ⟨hv, fva, ha, fa⟩ 0 es = es by simp [struckN]]; exact HO.out⟩
  case round =>
    obtain ⟨k, hk, rfl, hgb, hO⟩ := hrel
    have PO : Hid (wr.ownsRow base 172 6 (.slice (some ⟨g, 0, none⟩) n n) n (slotsC (struckN ⟨hv, fva, ha, fa⟩ k es))) := hO
    have lr : w.heap.size ≤ wr.heap.size := hgb.size
    have hfl : (slotsC (struckN ⟨hv, fva, ha, fa⟩ k es)).length = n * 6 := hO.1
    clear hO
    have r2 : wr.cell? ⟨b, o + 2, none⟩ = some (.slice (some ⟨g, 0, none⟩) n n) := gb_cell hgb c2 hbl hbg
    by_cases hlt : k < n
    · obtain ⟨⟨vv, lv, tg, asd, gl, pt⟩, hx⟩ : ∃ x, es[k]? = some x := ⟨_, List.getElem?_eq_getElem (by rw [HN.out]; exact hlt)⟩
      have hx' : (struckN ⟨hv, fva, ha, fa⟩ k es)[k]? = some ⟨vv, lv, tg, asd, gl, pt⟩ := by
        first
          | exact hx
          | (unfold struckN
             have hkl : k ≤ es.length := by rw [HN.out]; omega
             rw [List.getElem?_append_right (by simp; omega), List.length_map, List.length_take, Nat.min_eq_left hkl, Nat.sub_self, List.getElem?_drop, Nat.add_zero, hx])
      have HXk : Hid (es[k]? = some ⟨vv, lv, tg, asd, gl, pt⟩) := hx
      have CE : ∀ j u, j < 6 → (slotC ⟨vv, lv, tg, asd, gl, pt⟩)[j]? = some u → wr.cell? ⟨g, k * 6 + j, none⟩ = some u := fun j u hj hu => slot_cell PO.out (by have := hfl; rw [slotsC_len] at this; omega) k _ hx' j u hj hu
      have g0 : wr.cell? ⟨g, k * 6, none⟩ = some (.int .i64 lv) := CE 0 _ (by omega) rfl
      have g1 : wr.cell? ⟨g, k * 6 + 1, none⟩ = some (.int .u64 tg) := CE 1 _ (by omega) rfl
      have g2 : wr.cell? ⟨g, k * 6 + 2, none⟩ = some (.int .u64 asd) := CE 2 _ (by omega) rfl
      have g3 : wr.cell? ⟨g, k * 6 + 3, none⟩ = some (.bool gl) := CE 3 _ (by omega) rfl
      have g4 : wr.cell? ⟨g, k * 6 + 4, none⟩ = some (.bool vv) := CE 4 _ (by omega) rfl
      have g5 : wr.cell? ⟨g, k * 6 + 5, none⟩ = some (.int .u64 pt) := CE 5 _ (by omega) rfl
      have HNx : Hid _ := struckN_next ⟨hv, fva, ha, fa⟩ k es _ hx
      have HSm : Hid ((struckN ⟨hv, fva, ha, fa⟩ k es).set k ⟨vv, lv, tg, asd, gl, pt⟩ = struckN ⟨hv, fva, ha, fa⟩ k es) := by
        show _ = _
        apply List.ext_getElem?
        intro j
        rw [List.getElem?_set]
        by_cases hj : k = j
        · subst hj
          have hkl := (List.getElem?_eq_some_iff.1 hx').1
          rw [if_pos rfl, if_pos hkl, hx']
        · rw [if_neg hj]
      have HLx : Hid (vv = true → 0 ≤ lv ∧ lv ≤ 2) := fun h => HLv.out k _ hx h
      clear CE hx hx'
      have n5 := (Below.refl wr.heap.size wr).alloc (Nat.le_refl _) (Obj.cells #[.int .i64 lv, .int .u64 tg, .int .u64 asd, .bool gl, .bool vv, .int .u64 pt] 172)
      have hgb5 := gb_below hgb n5
      cases vv
      · have hst : struckM ⟨hv, fva, ha, fa⟩ ⟨false, lv, tg, asd, gl, pt⟩ = ⟨false, lv, tg, asd, gl, pt⟩ := by simp [struckM]
        go_wp2_with fail
        go_roundw
        case rel => exact ⟨k + 1, by omega, by go_num, hgb5, by rw [HNx.out, hst, HSm.out]; exact own_below PO.out n5⟩
        case measure => simp [intOf]; omega
      · obtain ⟨hl0, hl2⟩ := HLx.out rfl
        obtain ⟨cb, hcb⟩ : ∃ cb, coversM ⟨hv, fva, ha, fa⟩ lv tg asd gl = cb := ⟨_, rfl⟩
        have hst : struckM ⟨hv, fva, ha, fa⟩ ⟨true, lv, tg, asd, gl, pt⟩ = if cb = true then ent0 else ⟨true, lv, tg, asd, gl, pt⟩ := by simp [struckM, hcb]
        have HSt : Hid _ := hst
        have HCv : Hid (∀ u : World, u.heap[pf]? = some (.cells #[.bool hv, .int .u64 fva, .bool ha, .int .u64 fa] 82 (0, 0)) → u.heap[pv]? = some (.cells #[.int .u64 fva] 94 (0, 0)) → Calls Try.prog 147 #[.agg #[.int .i64 lv, .int .u64 tg, .int .u64 asd, .bool gl], .pointer (some ⟨pf, 0, none⟩), .pointer (some ⟨pv, 0, none⟩)] u fun e w' => e = .returned (.bool cb) ∧ Below u.heap.size u w') := fun u h1 h2 => by
          have := cover2_any hv fva ha fa lv tg asd gl pf pv u (by omega) hv0 hv1 h1 h2
          rw [covB_covers _ _ _ _ _ hcan, hcb] at this
          exact this
        have F5 := heap_gb hF hgb5 hpf
        have V5 := heap_gb hV hgb5 hpv
        clear hcb hst
        go_wp2_with fail
        generalize wr.alloc (Obj.cells #[.int .i64 lv, .int .u64 tg, .int .u64 asd, .bool gl, .bool true, .int .u64 pt] 172) = v5 at n5 hgb5 F5 V5 ⊢
        refine (HCv.out v5 F5 V5).mono ?_
        rintro e v6 ⟨rfl, n6⟩
        have n56 := Below.step n5 n6 (Nat.le_refl _)
        have hgb6 := gb_below hgb n56
        have SO : Hid (v6.ownsRow base 172 6 (.slice (some ⟨g, 0, none⟩) n n) n (slotsC (struckN ⟨hv, fva, ha, fa⟩ k es))) := own_below PO.out n56
        clear g0 g1 g2 g3 g4 g5 r2 F5 V5 n5 n6 hgb5 hgb
        have r2 : v6.cell? ⟨b, o + 2, none⟩ = some (.slice (some ⟨g, 0, none⟩) n n) := gb_cell hgb6 c2 hbl hbg
        cases cb
        · go_wp2_with fail
          go_roundw
          case rel => exact ⟨k + 1, by omega, by go_num, hgb6, by rw [HNx.out, HSt.out]; simp only [Bool.false_eq_true, if_false]; rw [HSm.out]; exact SO.out⟩
          case measure => simp [intOf]; omega
        ·
          have q0 := own_cell SO.out (k * 6) _ (List.getElem?_eq_getElem (by omega))
          have q1 := own_cell SO.out (k * 6 + 1) _ (List.getElem?_eq_getElem (by omega))
          have q2 := own_cell SO.out (k * 6 + 2) _ (List.getElem?_eq_getElem (by omega))
          have q3 := own_cell SO.out (k * 6 + 3) _ (List.getElem?_eq_getElem (by omega))
          have q4 := own_cell SO.out (k * 6 + 4) _ (List.getElem?_eq_getElem (by omega))
          have q5 := own_cell SO.out (k * 6 + 5) _ (List.getElem?_eq_getElem (by omega))
          generalize (slotsC (struckN ⟨hv, fva, ha, fa⟩ k es))[k * 6]'_ = y0 at q0
          generalize (slotsC (struckN ⟨hv, fva, ha, fa⟩ k es))[k * 6 + 1]'_ = y1 at q1
          generalize (slotsC (struckN ⟨hv, fva, ha, fa⟩ k es))[k * 6 + 2]'_ = y2 at q2
          generalize (slotsC (struckN ⟨hv, fva, ha, fa⟩ k es))[k * 6 + 3]'_ = y3 at q3
          generalize (slotsC (struckN ⟨hv, fva, ha, fa⟩ k es))[k * 6 + 4]'_ = y4 at q4
          generalize (slotsC (struckN ⟨hv, fva, ha, fa⟩ k es))[k * 6 + 5]'_ = y5 at q5
          have s0 := own_free SO.out (k * 6)
          have s1 := own_free SO.out (k * 6 + 1)
          have s2 := own_free SO.out (k * 6 + 2)
          have s3 := own_free SO.out (k * 6 + 3)
          have s4 := own_free SO.out (k * 6 + 4)
          have s5 := own_free SO.out (k * 6 + 5)
          go_wp2_with fail
          go_roundw
          case rel =>
            refine ⟨k + 1, by omega, by go_num, gb_set (gb_set (gb_set (gb_set (gb_set (gb_set hgb6 _ _) _ _) _ _) _ _) _ _) _ _, ?_⟩
            rw [HNx.out, HSt.out, if_pos (by trivial), slotsC_set _ _ _ (by rw [struckN_len, HN.out]; exact hlt)]
            exact own_store (own_store (own_store (own_store (own_store (own_store SO.out _ _) _ _) _ _) _ _) _ _) _ _
          case measure => simp [intOf]; omega
    · have hkn : k = n := by omega
      subst hkn
      go_wp2_with fail
      go_end0
      refine ⟨rfl, ?_, hgb⟩
      have hO := PO.out
      have hsn : struckN ⟨hv, fva, ha, fa⟩ k es = es.map (struckM ⟨hv, fva, ha, fa⟩) := by
        have hq : es.length = k := HN.out
        unfold struckN
        rw [← hq, List.take_length, List.drop_length, List.append_nil]
      rw [hsn] at hO
      exact hO

set_option maxRecDepth 20000 in
set_option maxHeartbeats 3200000 in
theorem flushAL_any (hv : Bool) (fva : Int) (ha : Bool) (fa : Int) (pf pv b o g n base : Nat) (es : List EntM) (sets ways : Int) (w : World) (hn : es.length = n) (hn1 : n ≤ 1048576) (hbl : b < w.heap.size) (hbg : b ≠ g) 
    (c2 : w.cell? ⟨b, o + 2, none⟩ = some (.slice (some ⟨g, 0, none⟩) n n)) (ho : w.ownsRow base 172 6 (.slice (some ⟨g, 0, none⟩) n n) n (slotsC es)) (hlv : ∀ (j : Nat) (x : EntM), es[j]? = some x → x.valid = true → 0 ≤ x.level ∧ x.level ≤ 2) :
    Calls Try.prog 149 #[.pointer (some ⟨b, o, none⟩), .func (.func 146) #[] #[]] w fun x w' => x = .returned (.tuple #[]) ∧ w'.ownsRow base 172 6 (.slice (some ⟨g, 0, none⟩) n n) n (slotsC (es)) ∧ w.grownBy w' (some g) := by
  have HO : Hid (w.ownsRow base 172 6 (.slice (some ⟨g, 0, none⟩) n n) n (slotsC es)) := ho
  have HN : Hid (es.length = n) := hn
  have HLv : Hid (∀ (j : Nat) (x : EntM), es[j]? = some x → x.valid = true → 0 ≤ x.level ∧ x.level ≤ 2) := hlv
  have hg := (own_at ho).2.2
  simp only at hg
  clear ho hn hlv
  go_enter Try.func149, Try.ntmps149
  go_wp2_with fail
  go_loopw [11] (fun i wr => ∃ k : Nat, k ≤ n ∧ i = .int .i64 k ∧ w.grownBy wr (some g) ∧ wr.ownsRow base 172 6 (.slice (some ⟨g, 0, none⟩) n n) n (slotsC (es))) (fun i _ => n - (intOf i).toNat)
  case atStart => exact ⟨0, Nat.zero_le _, rfl, gb_refl _ _, HO.out⟩
  case round =>
    obtain ⟨k, hk, rfl, hgb, hO⟩ := hrel
    have PO : Hid (wr.ownsRow base 172 6 (.slice (some ⟨g, 0, none⟩) n n) n (slotsC (es))) := hO
    have lr : w.heap.size ≤ wr.heap.size := hgb.size
    have hfl : (slotsC (es)).length = n * 6 := hO.1
    clear hO
    have r2 : wr.cell? ⟨b, o + 2, none⟩ = some (.slice (some ⟨g, 0, none⟩) n n) := gb_cell hgb c2 hbl hbg
    by_cases hlt : k < n
    · obtain ⟨⟨vv, lv, tg, asd, gl, pt⟩, hx⟩ : ∃ x, es[k]? = some x := ⟨_, List.getElem?_eq_getElem (by rw [HN.out]; exact hlt)⟩
      have hx' : (es)[k]? = some ⟨vv, lv, tg, asd, gl, pt⟩ := by
        first
          | exact hx
          | (unfold struckN
             have hkl : k ≤ es.length := by rw [HN.out]; omega
             rw [List.getElem?_append_right (by simp; omega), List.length_map, List.length_take, Nat.min_eq_left hkl, Nat.sub_self, List.getElem?_drop, Nat.add_zero, hx])
      have HXk : Hid (es[k]? = some ⟨vv, lv, tg, asd, gl, pt⟩) := hx
      have CE : ∀ j u, j < 6 → (slotC ⟨vv, lv, tg, asd, gl, pt⟩)[j]? = some u → wr.cell? ⟨g, k * 6 + j, none⟩ = some u := fun j u hj hu => slot_cell PO.out (by have := hfl; rw [slotsC_len] at this; omega) k _ hx' j u hj hu
      have g0 : wr.cell? ⟨g, k * 6, none⟩ = some (.int .i64 lv) := CE 0 _ (by omega) rfl
      have g1 : wr.cell? ⟨g, k * 6 + 1, none⟩ = some (.int .u64 tg) := CE 1 _ (by omega) rfl
      have g2 : wr.cell? ⟨g, k * 6 + 2, none⟩ = some (.int .u64 asd) := CE 2 _ (by omega) rfl
      have g3 : wr.cell? ⟨g, k * 6 + 3, none⟩ = some (.bool gl) := CE 3 _ (by omega) rfl
      have g4 : wr.cell? ⟨g, k * 6 + 4, none⟩ = some (.bool vv) := CE 4 _ (by omega) rfl
      have g5 : wr.cell? ⟨g, k * 6 + 5, none⟩ = some (.int .u64 pt) := CE 5 _ (by omega) rfl
      have HSm : Hid ((es).set k ⟨vv, lv, tg, asd, gl, pt⟩ = es) := by
        show _ = _
        apply List.ext_getElem?
        intro j
        rw [List.getElem?_set]
        by_cases hj : k = j
        · subst hj
          have hkl := (List.getElem?_eq_some_iff.1 hx').1
          rw [if_pos rfl, if_pos hkl, hx']
        · rw [if_neg hj]
      have HLx : Hid (vv = true → 0 ≤ lv ∧ lv ≤ 2) := fun h => HLv.out k _ hx h
      clear CE hx hx'
      have n5 := (Below.refl wr.heap.size wr).alloc (Nat.le_refl _) (Obj.cells #[.int .i64 lv, .int .u64 tg, .int .u64 asd, .bool gl, .bool vv, .int .u64 pt] 172)
      have hgb5 := gb_below hgb n5
      cases vv
      · go_wp2_with fail
        go_roundw
        case rel => exact ⟨k + 1, by omega, by go_num, hgb5, own_below PO.out n5⟩
        case measure => simp [intOf]; omega
      · go_wp2_with fail
        generalize wr.alloc (Obj.cells #[.int .i64 lv, .int .u64 tg, .int .u64 asd, .bool gl, .bool true, .int .u64 pt] 172) = v5 at n5 hgb5 ⊢
        refine (cover1_any lv tg asd gl v5).mono ?_
        rintro e v6 ⟨rfl, n6⟩
        have n56 := Below.step n5 n6 (Nat.le_refl _)
        have hgb6 := gb_below hgb n56
        go_wp2_with fail
        go_roundw
        case rel => exact ⟨k + 1, by omega, by go_num, hgb6, own_below PO.out n56⟩
        case measure => simp [intOf]; omega
    · have hkn : k = n := by omega
      subst hkn
      go_wp2_with fail
      go_end0
      refine ⟨rfl, ?_, hgb⟩
      have hO := PO.out
      exact hO

end Go.Proofs.Ytgdcghpanaljdab
