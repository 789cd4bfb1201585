import Derived.Test.YthekickjjaleaacGreatPack05
import Derived.Test.YthekickjjaleaacGreatPack06
import Derived.StillTailTactics
/- The specification's ValidTlb at 8 sets. -/
namespace Go.Proofs.YthekickjjaleaacGreat
open Go.RowKit
set_option linter.unusedVariables false
attribute [local go_sem ↓] Go.wp_at_zero Go.wp_at_succ

set_option maxHeartbeats 6400000 in
theorem specValid_8 (b off : Nat) (cap : Nat) (ways : Int) (es : List EntM) (n : Nat) (p : Bool) (w : World) (hr : RowC w (some ⟨b, off, none⟩) n 6 (entsC es)) (he : ∀ e ∈ es, entOk e) (hl : n ≤ 1048576) (hN : es.length = n)
   (hw : 1 ≤ ways) (hw' : ways ≤ 4) (hn : (n : Int) = 8 * ways) :
    Calls Tryz.prog 85 #[.agg #[.int .i64 8, .int .i64 ways, .slice (some ⟨b, off, none⟩) n cap], .bool p] w fun e w' => e = .returned (.bool (placesM ⟨8, ways, es⟩ p 0 es)) ∧ Below w.heap.size w w' := by
  have a1 := alloc_facts w #[.int .i64 8, .int .i64 ways, .slice (some ⟨b, off, none⟩) n cap] 34
  have hn' : ((n : Int) != 8 * ways) = false := by rw [bne_eq_false_iff_eq]; omega
  have HN : Hid (es.length = n) := hN
  have HR : Hid (RowC w (some ⟨b, off, none⟩) n 6 (entsC es)) := hr
  have HE : Hid (∀ e ∈ es, entOk e) := he
  obtain ⟨R, hR⟩ : ∃ R, placesM ⟨8, ways, es⟩ p 0 es = R := ⟨_, rfl⟩
  rw [hR]
  have HP : Hid (placesM ⟨8, ways, es⟩ p 0 es = R) := hR
  clear hN hr he hn hR
  go_enter Tryz.func85, Tryz.ntmps85
  go_wp2_with fail
  generalize w.alloc (Obj.cells #[.int .i64 8, .int .i64 ways, .slice (some ⟨b, off, none⟩) n cap] 34) = v1 at a1 ⊢
  obtain ⟨l1, c1, n1⟩ := a1
  have c10 : v1.cell? ⟨w.heap.size, 0, none⟩ = some (.int .i64 8) := c1 0
  have c11 : v1.cell? ⟨w.heap.size, 1, none⟩ = some (.int .i64 ways) := c1 1
  have c12 : v1.cell? ⟨w.heap.size, 2, none⟩ = some (.slice (some ⟨b, off, none⟩) n cap) := c1 2
  clear c1
  go_loopw [5] (fun i wr => ∃ k : Nat, k ≤ n ∧ i = .int .i64 k ∧ (∀ j x, j < k → es[j]? = some x → placeM ⟨8, ways, es⟩ p j x = true) ∧ Below v1.heap.size v1 wr) (fun i _ => n - (intOf i).toNat)
  case atStart => exact ⟨0, Nat.zero_le _, rfl, fun j x hj => absurd hj (by omega), Below.refl _ _⟩
  case round =>
    obtain ⟨k, hk, rfl, hall, hb⟩ := hrel
    have HA : Hid (∀ j x, j < k → es[j]? = some x → placeM ⟨8, ways, es⟩ p j x = true) := hall
    clear hall
    have d10 := Below.cell2 hb c10 l1
    have d11 := Below.cell2 hb c11 l1
    have d12 := Below.cell2 hb c12 l1
    have l2 : w.heap.size < wr.heap.size := Nat.lt_of_lt_of_le l1 hb.size
    have n1r := Below.step n1 hb (Nat.le_refl _)
    by_cases hlt : k < n
    · have hx : ∃ x : EntM, es[k]? = some x := ⟨_, List.getElem?_eq_getElem (by have := HN.out; omega)⟩
      obtain ⟨⟨v, lv, tg, asd, gl, pt⟩, hx⟩ := hx
      have hok : entOk ⟨v, lv, tg, asd, gl, pt⟩ := HE.out _ (List.mem_of_getElem? hx)
      have HRr := RowC.keep HR.out n1r
      have g0 : wr.cell? ⟨b, off + k * 6, none⟩ = some (.bool v) := row_cell HRr HN.out k _ hx 0 _ (by omega) rfl
      have g1 : wr.cell? ⟨b, off + k * 6 + 1, none⟩ = some (.int .i64 lv) := row_cell HRr HN.out k _ hx 1 _ (by omega) rfl
      have g2 : wr.cell? ⟨b, off + k * 6 + 2, none⟩ = some (.int .u64 tg) := row_cell HRr HN.out k _ hx 2 _ (by omega) rfl
      have g3 : wr.cell? ⟨b, off + k * 6 + 3, none⟩ = some (.int .u64 asd) := row_cell HRr HN.out k _ hx 3 _ (by omega) rfl
      have g4 : wr.cell? ⟨b, off + k * 6 + 4, none⟩ = some (.bool gl) := row_cell HRr HN.out k _ hx 4 _ (by omega) rfl
      have g5 : wr.cell? ⟨b, off + k * 6 + 5, none⟩ = some (.int .u64 pt) := row_cell HRr HN.out k _ hx 5 _ (by omega) rfl
      have HX : Hid (es[k]? = some ⟨v, lv, tg, asd, gl, pt⟩) := hx
      have HPf : Hid (placeM ⟨8, ways, es⟩ p k ⟨v, lv, tg, asd, gl, pt⟩ = false → false = R) := fun h => by rw [← HP.out]; exact (placesM_false _ p es 0 k _ hx (by rw [Nat.zero_add]; exact h)).symm
      have HPt : Hid (placeM ⟨8, ways, es⟩ p k ⟨v, lv, tg, asd, gl, pt⟩ = true → ∀ j x, j < k + 1 → es[j]? = some x → placeM ⟨8, ways, es⟩ p j x = true) := fun h j x hj hx' => by
        by_cases e : j = k
        · subst e; rw [hx] at hx'; cases hx'; exact h
        · exact HA.out j x (by omega) hx'
      clear hx HRr
      have a2 := alloc_facts wr #[.bool v, .int .i64 lv, .int .u64 tg, .int .u64 asd, .bool gl, .int .u64 pt] 101
      go_wp2_with fail
      generalize wr.alloc (Obj.cells #[.bool v, .int .i64 lv, .int .u64 tg, .int .u64 asd, .bool gl, .int .u64 pt] 101) = v2 at a2 ⊢
      obtain ⟨l3, c2, n2⟩ := a2
      have k0 := lies_cell (c2 0) l3
      have k1 := lies_cell (c2 1) l3
      have k2 := lies_cell (c2 2) l3
      have k3 := lies_cell (c2 3) l3
      have k4 := lies_cell (c2 4) l3
      have k5 := lies_cell (c2 5) l3
      have j0 := lies_cell (Below.cell2 n2 d10 l2) (Nat.lt_trans l2 l3)
      have j1 := lies_cell (Below.cell2 n2 d11 l2) (Nat.lt_trans l2 l3)
      have hb2 := Below.step hb n2 (Nat.le_refl _)
      have n12 := Below.step n1 hb2 (Nat.le_refl _)
      have ne := lies_some v2
      clear c2 d10 d11 d12 hb n2 g0 g1 g2 g3 g4 g5 c10 c11 c12 n1r
      obtain ⟨gd, hgd⟩ : ∃ gd, goodEntM ⟨v, lv, tg, asd, gl, pt⟩ p = gd := ⟨_, rfl⟩
      have HGd : Hid (∀ u : Lies v2, Calls Tryz.prog 97 #[entV ⟨v, lv, tg, asd, gl, pt⟩, .bool p] u.w fun e w' => e = .returned (.bool gd) ∧ Below u.w.heap.size u.w w') := fun u => by
        have := l4GoodEntry_any ⟨v, lv, tg, asd, gl, pt⟩ p u.w hok
        rw [hgd] at this
        exact this
      have HGv : Hid (goodEntM ⟨v, lv, tg, asd, gl, pt⟩ p = gd) := hgd
      clear hgd
      cases v
      · have hgf : gd = false := by rw [← HGv.out]; simp [goodEntM]
        subst hgf
        by_cases q1n : ¬ (lv = 0)
        · have q1 : (lv == 0) = false := by simpa using q1n
          have HQ : Hid ((lv == 0) = false) := q1
          clear q1n
          refine wp_region_lies (by kernel_rfl) (by kernel_rfl) ?_
          repeat (go_big_quiet_step ((go_at_call 97; exact lies_quiet _ (HGd.out _))))
          refine wpQuiet_nil ?_
          rintro _ ⟨u, rfl⟩
          go_wp2_with fail
          go_ret
          exact ⟨ret_bool (HPf.out (by simp [placeM, HGv.out, HQ.out])), Below.step n12 u.h (Nat.le_refl _)⟩
        have q1z : lv = 0 := Decidable.not_not.1 q1n
        subst q1z
        clear q1n
        by_cases q2n : ¬ (tg = 0)
        · have q2 : (tg == 0) = false := by simpa using q2n
          have HQ : Hid ((tg == 0) = false) := q2
          clear q2n
          refine wp_region_lies (by kernel_rfl) (by kernel_rfl) ?_
          repeat (go_big_quiet_step ((go_at_call 97; exact lies_quiet _ (HGd.out _))))
          refine wpQuiet_nil ?_
          rintro _ ⟨u, rfl⟩
          go_wp2_with fail
          go_ret
          exact ⟨ret_bool (HPf.out (by simp [placeM, HGv.out, HQ.out])), Below.step n12 u.h (Nat.le_refl _)⟩
        have q2z : tg = 0 := Decidable.not_not.1 q2n
        subst q2z
        clear q2n
        by_cases q3n : ¬ (asd = 0)
        · have q3 : (asd == 0) = false := by simpa using q3n
          have HQ : Hid ((asd == 0) = false) := q3
          clear q3n
          refine wp_region_lies (by kernel_rfl) (by kernel_rfl) ?_
          repeat (go_big_quiet_step ((go_at_call 97; exact lies_quiet _ (HGd.out _))))
          refine wpQuiet_nil ?_
          rintro _ ⟨u, rfl⟩
          go_wp2_with fail
          go_ret
          exact ⟨ret_bool (HPf.out (by simp [placeM, HGv.out, HQ.out])), Below.step n12 u.h (Nat.le_refl _)⟩
        have q3z : asd = 0 := Decidable.not_not.1 q3n
        subst q3z
        clear q3n
        cases hgl : gl
        · subst hgl
          by_cases q5n : ¬ (pt = 0)
          · have q5 : (pt == 0) = false := by simpa using q5n
            have HQ : Hid ((pt == 0) = false) := q5
            clear q5n
            refine wp_region_lies (by kernel_rfl) (by kernel_rfl) ?_
            repeat (go_big_quiet_step ((go_at_call 97; exact lies_quiet _ (HGd.out _))))
            refine wpQuiet_nil ?_
            rintro _ ⟨u, rfl⟩
            go_wp2_with fail
            go_ret
            exact ⟨ret_bool (HPf.out (by simp [placeM, HGv.out, HQ.out])), Below.step n12 u.h (Nat.le_refl _)⟩
          have q5z : pt = 0 := Decidable.not_not.1 q5n
          subst q5z
          clear q5n
          refine wp_region_lies (by kernel_rfl) (by kernel_rfl) ?_
          repeat (go_big_quiet_step ((go_at_call 97; exact lies_quiet _ (HGd.out _))))
          refine wpQuiet_nil ?_
          rintro _ ⟨u, rfl⟩
          go_wp2_with fail
          go_roundw
          case rel => exact ⟨k + 1, by omega, by go_num, HPt.out (by simp [placeM]), Below.step hb2 u.h (Nat.le_refl _)⟩
          case measure => simp [intOf]; omega
        · subst hgl
          refine wp_region_lies (by kernel_rfl) (by kernel_rfl) ?_
          repeat (go_big_quiet_step ((go_at_call 97; exact lies_quiet _ (HGd.out _))))
          refine wpQuiet_nil ?_
          rintro _ ⟨u, rfl⟩
          go_wp2_with fail
          go_ret
          exact ⟨ret_bool (HPf.out (by simp [placeM, HGv.out])), Below.step n12 u.h (Nat.le_refl _)⟩
      · cases gd
        · -- not good
          refine wp_region_lies (by kernel_rfl) (by kernel_rfl) ?_
          repeat (go_big_quiet_step ((go_at_call 97; exact lies_quiet _ (HGd.out _))))
          refine wpQuiet_nil ?_
          rintro _ ⟨u, rfl⟩
          go_wp2_with fail
          go_ret
          exact ⟨ret_bool (HPf.out (by simp [placeM, HGv.out])), Below.step n12 u.h (Nat.le_refl _)⟩
        · have htg : tg < 512 := good_tag HGv.out
          have htg0 : 0 ≤ tg := hok.2.1.1
          have hd0 : 0 ≤ (k : Int) / ways := Int.ediv_nonneg (by omega) (by omega)
          have hd1 : (k : Int) / ways ≤ 1048576 := Int.le_trans (Int.ediv_le_self _ (by omega)) (by omega)
          by_cases hq : tg % 8 = (k : Int) / ways
          · have hq' : (tg % 8 != (k : Int) / ways) = false := by rw [bne_eq_false_iff_eq]; exact hq
            have HQ : Hid (tg % 8 = (k : Int) / ways) := hq
            clear hq
            refine wp_region_lies (by kernel_rfl) (by kernel_rfl) ?_
            repeat (go_big_quiet_step ((go_at_call 97; exact lies_quiet _ (HGd.out _))))
            refine wpQuiet_nil ?_
            rintro _ ⟨u, rfl⟩
            go_wp2_with fail
            go_roundw
            case rel => exact ⟨k + 1, by omega, by go_num, HPt.out (by simp [placeM, HGv.out, HQ.out]), Below.step hb2 u.h (Nat.le_refl _)⟩
            case measure => simp [intOf]; omega
          · have hq' : (tg % 8 != (k : Int) / ways) = true := by rw [bne_iff_ne]; exact hq
            have HQ : Hid (¬ tg % 8 = (k : Int) / ways) := hq
            clear hq
            refine wp_region_lies (by kernel_rfl) (by kernel_rfl) ?_
            repeat (go_big_quiet_step ((go_at_call 97; exact lies_quiet _ (HGd.out _))))
            refine wpQuiet_nil ?_
            rintro _ ⟨u, rfl⟩
            go_wp2_with fail
            go_ret
            exact ⟨ret_bool (HPf.out (by simp [placeM, HQ.out])), Below.step n12 u.h (Nat.le_refl _)⟩
    · have hkn : k = n := by omega
      subst hkn
      have HT : Hid (true = R) := by
        show true = R
        rw [← HP.out]
        exact (placesM_true _ p es 0 (fun j x hx => by rw [Nat.zero_add]; exact HA.out j x (by have h1 := (List.getElem?_eq_some_iff.1 hx).1; have h2 := HN.out; omega) hx)).symm
      clear c10 c11 c12 n1 d10 d11
      go_wp2_with fail
      go_ret
      exact ⟨ret_bool HT.out, n1r⟩

end Go.Proofs.YthekickjjaleaacGreat

/- The specification's ValidTlb, whole; l4Either, l4GoodCaches. -/
namespace Go.Proofs.YthekickjjaleaacGreat
open Go.RowKit
set_option linter.unusedVariables false

set_option maxHeartbeats 1600000 in
/-- A shape that is not right. -/
theorem specValid_no (a : Option Addr) (n cap : Nat) (sets ways : Int) (p : Bool) (w : World) (hl : n ≤ 1048576) (hs : -9223372036854775808 ≤ sets ∧ sets ≤ 9223372036854775807) (hw : -9223372036854775808 ≤ ways ∧ ways ≤ 9223372036854775807)
    (h : ¬ ((sets = 1 ∨ sets = 2 ∨ sets = 4 ∨ sets = 8) ∧ 1 ≤ ways ∧ ways ≤ 4 ∧ (n : Int) = sets * ways)) :
    Calls Tryz.prog 85 #[.agg #[.int .i64 sets, .int .i64 ways, .slice a n cap], .bool p] w fun e w' => e = .returned (.bool false) ∧ Below w.heap.size w w' := by
  by_cases h1 : sets = 1 ∨ sets = 2 ∨ sets = 4 ∨ sets = 8
  · by_cases h2 : ways < 1
    · rcases h1 with rfl | rfl | rfl | rfl
      all_goals
        go_enter Tryz.func85, Tryz.ntmps85
        go_wp2_with fail
        go_ret
        exact ⟨rfl, (Below.refl _ _).alloc (Nat.le_refl _) _⟩
    by_cases h3 : 4 < ways
    · rcases h1 with rfl | rfl | rfl | rfl
      all_goals
        go_enter Tryz.func85, Tryz.ntmps85
        go_wp2_with fail
        go_ret
        exact ⟨rfl, (Below.refl _ _).alloc (Nat.le_refl _) _⟩
    rcases h1 with rfl | rfl | rfl | rfl
    · have h4 : ((n : Int) != ways) = true := by rw [bne_iff_ne]; omega
      clear h
      go_enter Tryz.func85, Tryz.ntmps85
      go_wp2_with fail
      go_ret
      exact ⟨rfl, (Below.refl _ _).alloc (Nat.le_refl _) _⟩
    · have h4 : ((n : Int) != 2 * ways) = true := by rw [bne_iff_ne]; omega
      clear h
      go_enter Tryz.func85, Tryz.ntmps85
      go_wp2_with fail
      go_ret
      exact ⟨rfl, (Below.refl _ _).alloc (Nat.le_refl _) _⟩
    · have h4 : ((n : Int) != 4 * ways) = true := by rw [bne_iff_ne]; omega
      clear h
      go_enter Tryz.func85, Tryz.ntmps85
      go_wp2_with fail
      go_ret
      exact ⟨rfl, (Below.refl _ _).alloc (Nat.le_refl _) _⟩
    · have h4 : ((n : Int) != 8 * ways) = true := by rw [bne_iff_ne]; omega
      clear h
      go_enter Tryz.func85, Tryz.ntmps85
      go_wp2_with fail
      go_ret
      exact ⟨rfl, (Below.refl _ _).alloc (Nat.le_refl _) _⟩
  · have q1 : (sets != 1) = true := by rw [bne_iff_ne]; omega
    have q2 : (sets != 2) = true := by rw [bne_iff_ne]; omega
    have q4 : (sets != 4) = true := by rw [bne_iff_ne]; omega
    have q8 : (sets != 8) = true := by rw [bne_iff_ne]; omega
    clear h h1
    go_enter Tryz.func85, Tryz.ntmps85
    go_wp2_with fail
    go_ret
    exact ⟨rfl, (Below.refl _ _).alloc (Nat.le_refl _) _⟩

theorem specValid_any (v : Value) (t : TlbM) (p : Bool) (w : World) (h : TlbAt w v t) :
    Calls Tryz.prog 85 #[v, .bool p] w fun e w' => e = .returned (.bool (validM t p)) ∧ Below w.heap.size w w' := by
  obtain ⟨a, cap, rfl, hr, he, hs, hw, hl, hlc, hcm, hnil, hsp⟩ := h
  obtain ⟨sets, ways, es⟩ := t
  simp only at hr he hs hw hl hlc hnil ⊢
  by_cases hsh : (sets = 1 ∨ sets = 2 ∨ sets = 4 ∨ sets = 8) ∧ 1 ≤ ways ∧ ways ≤ 4 ∧ (es.length : Int) = sets * ways
  · have hv : validM ⟨sets, ways, es⟩ p = placesM ⟨sets, ways, es⟩ p 0 es := by simp only [validM, shapeM]; rw [decide_eq_true hsh, Bool.true_and]
    rw [hv]
    obtain ⟨h1, h2, h3, h4⟩ := hsh
    obtain ⟨b, off, rfl⟩ : ∃ b off, a = some ⟨b, off, none⟩ := by
      rcases hr.2 with h0 | ⟨b, off, rfl, _, _⟩
      · rw [h0] at h4
        rcases h1 with rfl | rfl | rfl | rfl <;> simp at h4 <;> omega
      · exact ⟨b, off, rfl⟩
    rcases h1 with rfl | rfl | rfl | rfl
    · exact specValid_1 b off cap ways es es.length p w hr he hl rfl h2 h3 h4
    · exact specValid_2 b off cap ways es es.length p w hr he hl rfl h2 h3 h4
    · exact specValid_4 b off cap ways es es.length p w hr he hl rfl h2 h3 h4
    · exact specValid_8 b off cap ways es es.length p w hr he hl rfl h2 h3 h4
  · have hv : validM ⟨sets, ways, es⟩ p = false := by simp only [validM, shapeM]; rw [decide_eq_false hsh, Bool.false_and]
    rw [hv]
    exact specValid_no a es.length cap sets ways p w hl hs hw hsh

end Go.Proofs.YthekickjjaleaacGreat

/- The specification's l4Either, l4Fits, Lookup. -/
namespace Go.Proofs.YthekickjjaleaacGreat
open Go.RowKit
set_option linter.unusedVariables false
attribute [local go_sem ↓] Go.wp_at_zero Go.wp_at_succ

theorem TlbAt.keep {w w' : World} {v : Value} {t : TlbM} (h : TlbAt w v t) (hb : Below w.heap.size w w') : TlbAt w' v t := by
  obtain ⟨a, cap, rfl, hr, r⟩ := h
  exact ⟨a, cap, rfl, hr.keep hb, r⟩

def eitherM (t : TlbM) : Bool := validM t true || validM t false
def fitsM (x : EntM) (va asid : Int) : Bool := x.valid && (x.tag == tagM va x.level) && (x.glob || x.asid == asid)

set_option maxHeartbeats 800000 in
theorem l4Either_any (v : Value) (t : TlbM) (w : World) (h : TlbAt w v t) :
    Calls Tryz.prog 89 #[v] w fun e w' => e = .returned (.bool (eitherM t)) ∧ Below w.heap.size w w' := by
  have HT : Hid (TlbAt w v t) := h
  obtain ⟨a, cap, rfl, _⟩ := h
  have a1 := alloc_facts w #[.int .i64 t.sets, .int .i64 t.ways, .slice a t.es.length cap] 34
  unfold eitherM
  obtain ⟨p, hp⟩ : ∃ p, validM t true = p := ⟨_, rfl⟩
  obtain ⟨q, hq⟩ : ∃ q, validM t false = q := ⟨_, rfl⟩
  rw [hp, hq]
  have HP : Hid (validM t true = p) := hp
  have HQ : Hid (validM t false = q) := hq
  clear hp hq
  go_enter Tryz.func89, Tryz.ntmps89
  go_wp2_with fail
  generalize w.alloc (Obj.cells #[.int .i64 t.sets, .int .i64 t.ways, .slice a t.es.length cap] 34) = v1 at a1 ⊢
  obtain ⟨l1, c1, n1⟩ := a1
  have c10 : v1.cell? ⟨w.heap.size, 0, none⟩ = some (.int .i64 t.sets) := c1 0
  have c11 : v1.cell? ⟨w.heap.size, 1, none⟩ = some (.int .i64 t.ways) := c1 1
  have c12 : v1.cell? ⟨w.heap.size, 2, none⟩ = some (.slice a t.es.length cap) := c1 2
  refine (specValid_any _ t true v1 (HT.out.keep n1)).mono ?_
  rw [HP.out]
  rintro e v2 ⟨rfl, n2⟩
  have d10 := Below.cell2 n2 c10 l1
  have d11 := Below.cell2 n2 c11 l1
  have d12 := Below.cell2 n2 c12 l1
  have n12 := Below.step n1 n2 (Nat.le_refl _)
  clear c1 c10 c11 c12 n1 n2
  cases p
  · go_wp2_with fail
    refine (specValid_any _ t false v2 (HT.out.keep n12)).mono ?_
    rw [HQ.out]
    rintro e v3 ⟨rfl, n3⟩
    have n13 := Below.step n12 n3 (Nat.le_refl _)
    clear d10 d11 d12 n3
    go_wp2_with fail
    go_ret
    exact ⟨ret_bool (by simp), n13⟩
  · go_wp2_with fail
    go_ret
    exact ⟨ret_bool (by simp), n12⟩

set_option maxHeartbeats 1600000 in
theorem l4Fits_any (x : EntM) (va asid : Int) (w : World) (hx : entOk x) (hlv : x.valid = true → 0 ≤ x.level ∧ x.level ≤ 2) (hv0 : 0 ≤ va) (hv1 : va ≤ 18446744073709551615) :
    Calls Tryz.prog 90 #[entV x, .int .u64 va, .int .u64 asid] w fun e w' => e = .returned (.bool (fitsM x va asid)) ∧ Below w.heap.size w w' := by
  obtain ⟨v, lv, tg, asd, gl, pt⟩ := x
  unfold entV fitsM
  simp only at hlv ⊢
  have n1 := (Below.refl w.heap.size w).alloc (Nat.le_refl _) (Obj.cells #[.bool v, .int .i64 lv, .int .u64 tg, .int .u64 asd, .bool gl, .int .u64 pt] 101)
  cases v
  · go_enter Tryz.func90, Tryz.ntmps90
    go_wp2_with fail
    go_quiet (fail)
    go_wp2_with fail
    go_ret
    exact ⟨ret_bool (by simp), below_drewN n1 nq⟩
  obtain ⟨hl0, hl2⟩ := hlv rfl
  obtain ⟨tv, htv⟩ : ∃ tv, tagM va lv = tv := ⟨_, rfl⟩
  rw [htv]
  have HC : Hid (∀ w : World, Calls Tryz.prog 98 #[.int .u64 va, .int .i64 lv] w fun e w' => e = .returned (.int .u64 tv) ∧ ∃ n, w' = w.drewN n) := fun w => by
    have := l4Tag_at va lv w hv0 hv1 hl0 hl2
    rw [htv] at this
    exact this
  clear htv
  cases ht : (tg == tv)
  · go_enter Tryz.func90, Tryz.ntmps90
    go_wp2_with fail
    go_quiet ((go_at_call 98; exact Calls.quiet_of (HC.out _)))
    go_wp2_with fail
    go_ret
    exact ⟨ret_bool (by simp), below_drewN n1 nq⟩
  · cases gl
    · go_enter Tryz.func90, Tryz.ntmps90
      go_wp2_with fail
      go_quiet ((go_at_call 98; exact Calls.quiet_of (HC.out _)))
      go_wp2_with fail
      go_ret
      exact ⟨ret_bool (by simp), below_drewN n1 nq⟩
    · go_enter Tryz.func90, Tryz.ntmps90
      go_wp2_with fail
      go_quiet ((go_at_call 98; exact Calls.quiet_of (HC.out _)))
      go_wp2_with fail
      go_ret
      exact ⟨ret_bool (by simp), below_drewN n1 nq⟩

end Go.Proofs.YthekickjjaleaacGreat

/- Stores into rows of one's own; a world that has grown but for one block. No program is named here. -/
namespace Go.Proofs.YthekickjjaleaacGreat
open Go.RowKit
set_option linter.unusedVariables false

theorem own_store {e : TypeId} {size : Nat} {w : World} {base g n cap : Nat} {cs : List Value} (h : w.ownsRow base e size (.slice (some ⟨g, 0, none⟩) n cap) n cs) (j : Nat) (u : Value) :
    (w.setCell ⟨g, j, none⟩ u).ownsRow base e size (.slice (some ⟨g, 0, none⟩) n cap) n (cs.set j u) := by
  obtain ⟨h1, h2⟩ := h
  refine ⟨by simpa using h1, ?_⟩
  rcases h2 with ⟨h2, _⟩ | ⟨g', cap', cur, h2, hb, hg, hc1, hc2, hc3, ht⟩
  · cases h2
  · cases h2
    refine .inr ⟨g, cap, cur.setIfInBounds j u, rfl, hb, by simp [World.setCell, Array.getElem?_modify, hg], hc1, hc2, by simpa using hc3, ?_⟩
    subst ht
    rw [Array.toList_setIfInBounds, List.take_set]

theorem own_cell {e : TypeId} {size : Nat} {w : World} {base g n cap : Nat} {cs : List Value} (h : w.ownsRow base e size (.slice (some ⟨g, 0, none⟩) n cap) n cs) (j : Nat) (u : Value) (hj : cs[j]? = some u) : w.cell? ⟨g, j, none⟩ = some u :=
  (CurAt.of_own h).1.cell j u hj

theorem own_free {e : TypeId} {size : Nat} {w : World} {base g n cap : Nat} {cs : List Value} (h : w.ownsRow base e size (.slice (some ⟨g, 0, none⟩) n cap) n cs) (j : Nat) : w.frozen? ⟨g, j, none⟩ = false :=
  (CurAt.of_own h).1.free j

theorem gb_below {a b c : World} {r : Option Nat} (h : a.grownBy b r) (k : Below b.heap.size b c) : a.grownBy c r :=
  ⟨k.os.trans h.os, k.tape.trans h.tape, k.output.trans h.output, Nat.le_trans h.size k.size, fun i hi hn => (k.block i (Nat.lt_of_lt_of_le hi h.size)).trans (h.block i hi hn)⟩

theorem gb_cell {a b : World} {r g o : Nat} {x : Option Value} (h : a.grownBy b (some r)) (hc : a.cell? ⟨g, o, none⟩ = x) (hg : g < a.heap.size) (hne : g ≠ r) : b.cell? ⟨g, o, none⟩ = x :=
  (World.cell?_of_block (h.block g hg (by simpa using hne))).trans hc

theorem gb_row {a b : World} {r n size : Nat} {q : Option Addr} {cs : List Value} (h : RowC a q n size cs) (hg : a.grownBy b (some r)) (hr : a.heap.size ≤ r ∨ ∀ x, q = some x → x.block ≠ r) : RowC b q n size cs := by
  obtain ⟨h1, h2⟩ := h
  refine ⟨h1, ?_⟩
  rcases h2 with h2 | ⟨bk, off, rfl, hlt, hc⟩
  · exact .inl h2
  · refine .inr ⟨bk, off, rfl, Nat.lt_of_lt_of_le hlt hg.size, fun i u hu => ?_⟩
    exact gb_cell hg (hc i u hu) hlt (by
      rcases hr with hr | hr
      · omega
      · exact hr _ rfl)

/-- A region that draws, whose first n operations only read, and whose others come after them in the order of the text. -/
theorem wp_region_tail {P : Program} {id : Nat} {Q : Exit → Act → World → Prop} {a : Act} {w : World} {l : List Oper} (n : Nat) (hm : P.follows .mixedOrders = true) (hB : Region.lexTailB .any l.toArray n = true)
    (h : wpStill P l.toArray w.drew (fun a' => wpList P l.toArray Q (l.drop n) a' w.drew) (l.take n) a) : (Code.region id l.toArray true).wp P Q a w :=
  wp_region_still_tail n hm hB h

end Go.Proofs.YthekickjjaleaacGreat

/- The specification's Lookup. -/
namespace Go.Proofs.YthekickjjaleaacGreat
open Go.RowKit
set_option linter.unusedVariables false
attribute [local go_sem ↓] Go.wp_at_zero Go.wp_at_succ

def hitB (va asid l : Int) (x : EntM) : Bool := x.level == l && fitsM x va asid

/-- The first entry of a level that fits, and its index. -/
def findL (va asid l : Int) : Nat → List EntM → Option (Nat × EntM)
  | _, [] => none
  | i, e :: r => if hitB va asid l e = true then some (i, e) else findL va asid l (i + 1) r

/-- Found, index, level, entry. -/
def hitOf (l : Int) : Option (Nat × EntM) → Option (Bool × Int × Int × Int)
  | none => none
  | some (i, e) => some (true, (i : Int), l, e.pte)

def hitM (t : TlbM) (va asid : Int) : Bool × Int × Int × Int :=
  if eitherM t = false then (false, 0, 0, 0)
  else ((hitOf 0 (findL va asid 0 0 t.es)).or ((hitOf 1 (findL va asid 1 0 t.es)).or (hitOf 2 (findL va asid 2 0 t.es)))).getD (false, 0, 0, 0)

theorem findL_none (va asid l : Int) : ∀ (es : List EntM) (i : Nat), (∀ (j : Nat) x, es[j]? = some x → hitB va asid l x = false) → findL va asid l i es = none
  | [], i, h => rfl
  | e :: r, i, h => by
    rw [findL, if_neg (by rw [h 0 e rfl]; simp)]
    exact findL_none va asid l r (i + 1) (fun j x hx => h (j + 1) x (by simpa using hx))

theorem findL_some (va asid l : Int) : ∀ (es : List EntM) (i k : Nat) (x : EntM), es[k]? = some x → hitB va asid l x = true → (∀ j y, j < k → es[j]? = some y → hitB va asid l y = false) → findL va asid l i es = some (i + k, x)
  | e :: r, i, 0, x, hx, hh, h => by
    simp at hx
    subst hx
    rw [findL, if_pos hh]
    rfl
  | e :: r, i, k + 1, x, hx, hh, h => by
    rw [findL, if_neg (by rw [h 0 e (by omega) rfl]; simp), findL_some va asid l r (i + 1) k x (by simpa using hx) hh (fun j y hj hy => h (j + 1) y (by omega) (by simpa using hy))]
    congr 2; omega

theorem places_at (t : TlbM) (p : Bool) : ∀ (es : List EntM) (i : Nat), placesM t p i es = true → ∀ j x, es[j]? = some x → placeM t p (i + j) x = true
  | e :: r, i, h, 0, x, hx => by
    simp at hx
    subst hx
    simp only [placesM, Bool.and_eq_true] at h
    exact h.1
  | e :: r, i, h, j + 1, x, hx => by
    simp only [placesM, Bool.and_eq_true] at h
    have := places_at t p r (i + 1) h.2 j x (by simpa using hx)
    rw [show i + (j + 1) = i + 1 + j by omega]
    exact this

theorem place_level {t : TlbM} {p : Bool} {i : Nat} {x : EntM} (h : placeM t p i x = true) (hv : x.valid = true) : 0 ≤ x.level ∧ x.level ≤ 2 := by
  simp only [placeM, Bool.or_eq_true, Bool.and_eq_true] at h
  rcases h with h | h
  · rw [hv] at h; simp at h
  · have := h.1
    simp only [goodEntM, Bool.and_eq_true, decide_eq_true_eq] at this
    exact ⟨this.1.1.1.1.1.2, this.1.1.1.1.2⟩

theorem either_level {t : TlbM} (h : eitherM t = true) (j : Nat) (x : EntM) (hx : t.es[j]? = some x) (hv : x.valid = true) : 0 ≤ x.level ∧ x.level ≤ 2 := by
  simp only [eitherM, validM, Bool.or_eq_true, Bool.and_eq_true] at h
  rcases h with h | h
  · exact place_level (places_at t true t.es 0 h.2 j x hx) hv
  · exact place_level (places_at t false t.es 0 h.2 j x hx) hv

theorem hitM_at (t : TlbM) (va asid : Int) (l k : Nat) (x : EntM) (he : eitherM t = true) (hl : l ≤ 2) (hp : ∀ l' : Nat, l' < l → findL va asid l' 0 t.es = none) (hf : findL va asid l 0 t.es = some (k, x)) :
    hitM t va asid = (true, (k : Int), (l : Int), x.pte) := by
  unfold hitM
  rw [if_neg (by rw [he]; simp)]
  rcases (show l = 0 ∨ l = 1 ∨ l = 2 by omega) with rfl | rfl | rfl
  · have hf' : findL va asid 0 0 t.es = some (k, x) := hf
    rw [hf']
    rfl
  · have h0 : findL va asid 0 0 t.es = none := hp 0 (by omega)
    have hf' : findL va asid 1 0 t.es = some (k, x) := hf
    rw [h0, hf']
    rfl
  · have h0 : findL va asid 0 0 t.es = none := hp 0 (by omega)
    have h1 : findL va asid 1 0 t.es = none := hp 1 (by omega)
    have hf' : findL va asid 2 0 t.es = some (k, x) := hf
    rw [h0, h1, hf']
    rfl

theorem hitM_none (t : TlbM) (va asid : Int) (he : eitherM t = true) (hp : ∀ l' : Nat, l' < 3 → findL va asid l' 0 t.es = none) : hitM t va asid = (false, 0, 0, 0) := by
  have h0 : findL va asid 0 0 t.es = none := hp 0 (by omega)
  have h1 : findL va asid 1 0 t.es = none := hp 1 (by omega)
  have h2 : findL va asid 2 0 t.es = none := hp 2 (by omega)
  unfold hitM
  rw [if_neg (by rw [he]; simp), h0, h1, h2]
  rfl

set_option maxHeartbeats 6400000 in
theorem specLookup_any (v : Value) (t : TlbM) (va asid : Int) (w : World) (h : TlbAt w v t) (hv0 : 0 ≤ va) (hv1 : va ≤ 18446744073709551615) :
    Calls Tryz.prog 43 #[v, .int .u64 va, .int .u64 asid] w fun e w' =>
      e = .returned (.agg #[.bool (hitM t va asid).1, .int .i64 (hitM t va asid).2.1, .int .i64 (hitM t va asid).2.2.1, .int .u64 (hitM t va asid).2.2.2]) ∧ Below w.heap.size w w' := by
  have HT : Hid (TlbAt w v t) := h
  obtain ⟨a, cap, rfl, hr, he, hs, hw, hl, hlc, hcm, hnil, hsp⟩ := h
  obtain ⟨⟨x1, x2, x3, x4⟩, hX⟩ : ∃ X, hitM t va asid = X := ⟨_, rfl⟩
  rw [hX]
  simp only
  have HX : Hid (hitM t va asid = (x1, x2, x3, x4)) := hX
  obtain ⟨eb, heb⟩ : ∃ eb, eitherM t = eb := ⟨_, rfl⟩
  have HEb : Hid (eitherM t = eb) := heb
  obtain ⟨n, hn⟩ : ∃ n, t.es.length = n := ⟨_, rfl⟩
  have HN : Hid (t.es.length = n) := hn
  rw [hn] at hr hl hlc hnil ⊢
  have HR : Hid (RowC w a n 6 (entsC t.es)) := hr
  have HE : Hid (∀ e ∈ t.es, entOk e) := he
  have n1 := ((Below.refl w.heap.size w).alloc (Nat.le_refl _) (Obj.cells #[.int .i64 t.sets, .int .i64 t.ways, .slice a n cap] 34)).alloc (by simp) (Obj.cells #[.bool false, .int .i64 0, .int .i64 0, .int .u64 0] 85)
  have H1 : Hid (((w.alloc (Obj.cells #[.int .i64 t.sets, .int .i64 t.ways, .slice a n cap] 34)).alloc (Obj.cells #[.bool false, .int .i64 0, .int .i64 0, .int .u64 0] 85)).heap[w.heap.size + 1]? = some (.cells #[.bool false, .int .i64 0, .int .i64 0, .int .u64 0] 85 (0, 0))) := by
    have := heap_alloc_new (w.alloc (Obj.cells #[.int .i64 t.sets, .int .i64 t.ways, .slice a n cap] 34)) (Obj.cells #[.bool false, .int .i64 0, .int .i64 0, .int .u64 0] 85)
    simp only [World.size_alloc] at this
    exact this
  have H2 : Hid (((w.alloc (Obj.cells #[.int .i64 t.sets, .int .i64 t.ways, .slice a n cap] 34)).alloc (Obj.cells #[.bool false, .int .i64 0, .int .i64 0, .int .u64 0] 85)).cell? ⟨w.heap.size, 2, none⟩ = some (.slice a n cap)) := by
    show _ = _
    simp
  have l1 : w.heap.size + 1 < ((w.alloc (Obj.cells #[.int .i64 t.sets, .int .i64 t.ways, .slice a n cap] 34)).alloc (Obj.cells #[.bool false, .int .i64 0, .int .i64 0, .int .u64 0] 85)).heap.size := by simp
  clear hX heb hn hr he hs hw hnil hsp
  go_enter Tryz.func43, Tryz.ntmps43
  go_wp2_with fail
  generalize (w.alloc (Obj.cells #[.int .i64 t.sets, .int .i64 t.ways, .slice a n cap] 34)).alloc (Obj.cells #[.bool false, .int .i64 0, .int .i64 0, .int .u64 0] 85) = v1 at n1 H1 H2 l1 ⊢
  have HTn : Hid (TlbAt w (.agg #[.int .i64 t.sets, .int .i64 t.ways, .slice a n cap]) t) := by have := HT.out; rw [HN.out] at this; exact this
  refine (l4Either_any _ t v1 (HTn.out.keep n1)).mono ?_
  rw [HEb.out]
  rintro e v2 ⟨rfl, n2⟩
  have n12 := Below.step n1 n2 (Nat.le_refl _)
  have K1 : Hid (v2.heap[w.heap.size + 1]? = some (.cells #[.bool false, .int .i64 0, .int .i64 0, .int .u64 0] 85 (0, 0))) := heap_keep H1.out n2 l1
  have K2 : v2.cell? ⟨w.heap.size, 2, none⟩ = some (.slice a n cap) := Below.cell2 n2 H2.out (by omega)
  have l2 : w.heap.size + 1 < v2.heap.size := Nat.lt_of_lt_of_le l1 n2.size
  clear n1 n2 H1 H2 l1
  cases eb
  · obtain ⟨⟨d0, d1, d2, d3⟩, e0, e1, e2, e3⟩ := four_cells K1.out
    have hz : (x1, x2, x3, x4) = (false, 0, 0, 0) := by rw [← HX.out]; unfold hitM; rw [if_pos HEb.out]
    cases hz
    go_wp2_with fail
    exact bodyPost_ret (v := .agg #[.bool false, .int .i64 0, .int .i64 0, .int .u64 0]) (by simp [results, Tryz.results43, go_sem, d0, d1, d2, d3]) rfl ⟨rfl, bel4 n12 (by omega) _ _ _ _⟩
  · go_wp2_with fail
    go_loopw [7] (fun lev wr => ∃ l : Nat, l ≤ 3 ∧ lev = .int .i64 l ∧ (∀ l' : Nat, l' < l → findL va asid l' 0 t.es = none) ∧ Below v2.heap.size v2 wr) (fun lev _ => 3 - (intOf lev).toNat)
    case atStart => exact ⟨0, by omega, rfl, fun l' h => absurd h (by omega), Below.refl _ _⟩
    case round =>
      obtain ⟨l, hl3, rfl, hprev, hb⟩ := hrel
      have HPv : Hid (∀ l' : Nat, l' < l → findL va asid l' 0 t.es = none) := hprev
      clear hprev
      by_cases hlt : l ≤ 2
      · have hlt' : decide ((l : Int) ≤ 2) = true := by simp; omega
        go_wp2_with fail
        go_loopw [8] (fun i wq => ∃ k : Nat, k ≤ n ∧ i = .int .i64 k ∧ (∀ j x, j < k → t.es[j]? = some x → hitB va asid l x = false) ∧ Below v2.heap.size v2 wq) (fun i _ => n - (intOf i).toNat)
        case atStart => exact ⟨0, Nat.zero_le _, rfl, fun j x hj => absurd hj (by omega), hb⟩
        case round =>
          obtain ⟨k, hk, rfl, hall, hbq⟩ := hrel
          have HA : Hid (∀ j x, j < k → t.es[j]? = some x → hitB va asid l x = false) := hall
          clear hall hb
          have d12 := Below.cell2 hbq K2 (by omega)
          have l3 : w.heap.size + 1 < wr.heap.size := Nat.lt_of_lt_of_le l2 hbq.size
          have n1q := Below.step n12 hbq (Nat.le_refl _)
          by_cases hkn : k < n
          · have hx : ∃ x : EntM, t.es[k]? = some x := ⟨_, List.getElem?_eq_getElem (by have := HN.out; omega)⟩
            obtain ⟨⟨v, lv, tg, asd, gl, pt⟩, hx⟩ := hx
            have hok : entOk ⟨v, lv, tg, asd, gl, pt⟩ := HE.out _ (List.mem_of_getElem? hx)
            have hlv := either_level HEb.out k _ hx
            obtain ⟨b, off, rfl⟩ : ∃ b off, a = some ⟨b, off, none⟩ := by
              rcases HR.out.2 with h0 | ⟨b, off, rfl, _, _⟩
              · omega
              · exact ⟨b, off, rfl⟩
            have HRr := RowC.keep HR.out n1q
            have g0 : wr.cell? ⟨b, off + k * 6, none⟩ = some (.bool v) := row_cell HRr HN.out k _ hx 0 _ (by omega) rfl
            have g1 : wr.cell? ⟨b, off + k * 6 + 1, none⟩ = some (.int .i64 lv) := row_cell HRr HN.out k _ hx 1 _ (by omega) rfl
            have g2 : wr.cell? ⟨b, off + k * 6 + 2, none⟩ = some (.int .u64 tg) := row_cell HRr HN.out k _ hx 2 _ (by omega) rfl
            have g3 : wr.cell? ⟨b, off + k * 6 + 3, none⟩ = some (.int .u64 asd) := row_cell HRr HN.out k _ hx 3 _ (by omega) rfl
            have g4 : wr.cell? ⟨b, off + k * 6 + 4, none⟩ = some (.bool gl) := row_cell HRr HN.out k _ hx 4 _ (by omega) rfl
            have g5 : wr.cell? ⟨b, off + k * 6 + 5, none⟩ = some (.int .u64 pt) := row_cell HRr HN.out k _ hx 5 _ (by omega) rfl
            have HXk : Hid (t.es[k]? = some ⟨v, lv, tg, asd, gl, pt⟩) := hx
            have HLv : Hid (v = true → 0 ≤ lv ∧ lv ≤ 2) := hlv
            have HPt : Hid (hitB va asid l ⟨v, lv, tg, asd, gl, pt⟩ = false → ∀ j x, j < k + 1 → t.es[j]? = some x → hitB va asid l x = false) := fun h j x hj hx' => by
              by_cases e : j = k
              · subst e; rw [hx] at hx'; cases hx'; exact h
              · exact HA.out j x (by omega) hx'
            clear hx HRr hlv
            obtain ⟨fv, hfv⟩ : ∃ fv, fitsM ⟨v, lv, tg, asd, gl, pt⟩ va asid = fv := ⟨_, rfl⟩
            have HF : Hid (fitsM ⟨v, lv, tg, asd, gl, pt⟩ va asid = fv) := hfv
            clear hfv
            cases hq : (lv == (l : Int))
            · go_wp2_with fail
              go_roundw
              case rel => exact ⟨k + 1, by omega, by go_num, HPt.out (by simp [hitB, hq]), hbq⟩
              case measure => simp [intOf]; omega
            · have hq' : lv = (l : Int) := by simpa using hq
              subst hq'
              clear hq
              go_wp2_with fail
              refine (l4Fits_any ⟨v, (l : Int), tg, asd, gl, pt⟩ va asid wr hok HLv.out hv0 hv1).mono ?_
              rw [HF.out]
              rintro e v5 ⟨rfl, n5⟩
              have hb5 := Below.step hbq n5 (Nat.le_refl _)
              have n15 := Below.step n1q n5 (Nat.le_refl _)
              have p5 : v5.cell? ⟨b, off + k * 6 + 5, none⟩ = some (.int .u64 pt) := Below.cell2 n5 g5 (by
                rcases HR.out.2 with h0 | ⟨b', off', e, hlt', _⟩
                · omega
                · cases e; exact Nat.lt_of_lt_of_le hlt' n1q.size)
              have p12 := Below.cell2 n5 d12 (by omega)
              obtain ⟨⟨d0, d1, d2, d3⟩, e0, e1, e2, e3⟩ := four_cells (heap_keep K1.out hb5 l2)
              clear g0 g1 g2 g3 g4 g5 d12 n5
              cases fv
              · clear d0 d1 d2 d3 e0 e1 e2 e3 p5
                go_wp2_with fail
                go_roundw
                case rel => exact ⟨k + 1, by omega, by go_num, HPt.out (by simp [hitB, HF.out]), hb5⟩
                case measure => simp [intOf]; omega
              · have hh : hitB va asid l ⟨v, (l : Int), tg, asd, gl, pt⟩ = true := by simp [hitB, HF.out]
                have hfind := findL_some va asid l t.es 0 k _ HXk.out hh HA.out
                have HV : Hid ((x1, x2, x3, x4) = (true, (k : Int), (l : Int), pt)) := by
                  show _ = _
                  rw [← HX.out]
                  exact hitM_at t va asid l k _ HEb.out hlt HPv.out (by rw [hfind, Nat.zero_add])
                clear hh hfind
                have hV := HV.out
                cases hV
                go_wp2_with fail
                exact bodyPost_ret (v := .agg #[.bool true, .int .i64 k, .int .i64 l, .int .u64 x4]) (by simp [results, Tryz.results43, go_sem, d0, d1, d2, d3]) rfl ⟨rfl, bel4 n15 (by omega) _ _ _ _⟩
          · have hkn' : k = n := by omega
            have HF : Hid (findL va asid l 0 t.es = none) := findL_none va asid l t.es 0 (fun j x hx => HA.out j x (by have h1 := (List.getElem?_eq_some_iff.1 hx).1; have h2 := HN.out; omega) hx)
            go_wp2_with fail
            go_roundw
            case rel => exact ⟨l + 1, by omega, by go_num, fun l' h => by
              by_cases e : l' = l
              · subst e; exact HF.out
              · exact HPv.out l' (by omega), hbq⟩
            case measure => simp [intOf]; omega
      · obtain ⟨⟨d0, d1, d2, d3⟩, e0, e1, e2, e3⟩ := four_cells (heap_keep K1.out hb l2)
        have n14 := Below.step n12 hb (Nat.le_refl _)
        have hz : (x1, x2, x3, x4) = (false, 0, 0, 0) := by
          rw [← HX.out]
          exact hitM_none t va asid HEb.out (fun l' h => HPv.out l' (by omega))
        cases hz
        clear K2
        go_wp2_with fail
        exact bodyPost_ret (v := .agg #[.bool false, .int .i64 0, .int .i64 0, .int .u64 0]) (by simp [results, Tryz.results43, go_sem, d0, d1, d2, d3]) rfl ⟨rfl, bel4 n14 (by omega) _ _ _ _⟩

end Go.Proofs.YthekickjjaleaacGreat
