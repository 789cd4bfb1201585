import Derived.Test.YthekickjjaleaacPack03
/- The specification's ValidTlb at 1 sets. -/
namespace Go.Proofs.Ythekickjjaleaac
open Go.RowKit
set_option linter.unusedVariables false
attribute [local go_sem ↓] Go.wp_at_zero Go.wp_at_succ

set_option maxHeartbeats 6400000 in
theorem specValid_1 (b off : Nat) (cap : Nat) (ways : Int) (es : List EntM) (n : Nat) (p : Bool) (w : World) (hr : RowC w (some ⟨b, off, none⟩) n 6 (entsC es)) (he : ∀ e ∈ es, entOk e) (hl : n ≤ 1048576) (hN : es.length = n)
   (hw : 1 ≤ ways) (hw' : ways ≤ 4) (hn : (n : Int) = 1 * ways) :
    Calls Try.prog 58 #[.agg #[.int .i64 1, .int .i64 ways, .slice (some ⟨b, off, none⟩) n cap], .bool p] w fun e w' => e = .returned (.bool (placesM ⟨1, ways, es⟩ p 0 es)) ∧ Below w.heap.size w w' := by
  have a1 := alloc_facts w #[.int .i64 1, .int .i64 ways, .slice (some ⟨b, off, none⟩) n cap] 27
  have hn' : ((n : Int) != ways) = false := by rw [bne_eq_false_iff_eq]; omega
  have HN : Hid (es.length = n) := hN
  have HR : Hid (RowC w (some ⟨b, off, none⟩) n 6 (entsC es)) := hr
  have HE : Hid (∀ e ∈ es, entOk e) := he
  obtain ⟨R, hR⟩ : ∃ R, placesM ⟨1, ways, es⟩ p 0 es = R := ⟨_, rfl⟩
  rw [hR]
  have HP : Hid (placesM ⟨1, ways, es⟩ p 0 es = R) := hR
  clear hN hr he hn hR
  go_enter Try.func58, Try.ntmps58
  go_wp2_with fail
  generalize w.alloc (Obj.cells #[.int .i64 1, .int .i64 ways, .slice (some ⟨b, off, none⟩) n cap] 27) = v1 at a1 ⊢
  obtain ⟨l1, c1, n1⟩ := a1
  have c10 : v1.cell? ⟨w.heap.size, 0, none⟩ = some (.int .i64 1) := c1 0
  have c11 : v1.cell? ⟨w.heap.size, 1, none⟩ = some (.int .i64 ways) := c1 1
  have c12 : v1.cell? ⟨w.heap.size, 2, none⟩ = some (.slice (some ⟨b, off, none⟩) n cap) := c1 2
  clear c1
  go_loopw [5] (fun i wr => ∃ k : Nat, k ≤ n ∧ i = .int .i64 k ∧ (∀ j x, j < k → es[j]? = some x → placeM ⟨1, ways, es⟩ p j x = true) ∧ Below v1.heap.size v1 wr) (fun i _ => n - (intOf i).toNat)
  case atStart => exact ⟨0, Nat.zero_le _, rfl, fun j x hj => absurd hj (by omega), Below.refl _ _⟩
  case round =>
    obtain ⟨k, hk, rfl, hall, hb⟩ := hrel
    have HA : Hid (∀ j x, j < k → es[j]? = some x → placeM ⟨1, ways, es⟩ p j x = true) := hall
    clear hall
    have d10 := Below.cell2 hb c10 l1
    have d11 := Below.cell2 hb c11 l1
    have d12 := Below.cell2 hb c12 l1
    have l2 : w.heap.size < wr.heap.size := Nat.lt_of_lt_of_le l1 hb.size
    have n1r := Below.step n1 hb (Nat.le_refl _)
    by_cases hlt : k < n
    · have hx : ∃ x : EntM, es[k]? = some x := ⟨_, List.getElem?_eq_getElem (by have := HN.out; omega)⟩
      obtain ⟨⟨v, lv, tg, asd, gl, pt⟩, hx⟩ := hx
      have hok : entOk ⟨v, lv, tg, asd, gl, pt⟩ := HE.out _ (List.mem_of_getElem? hx)
      have HRr := RowC.keep HR.out n1r
      have g0 : wr.cell? ⟨b, off + k * 6, none⟩ = some (.bool v) := row_cell HRr HN.out k _ hx 0 _ (by omega) rfl
      have g1 : wr.cell? ⟨b, off + k * 6 + 1, none⟩ = some (.int .i64 lv) := row_cell HRr HN.out k _ hx 1 _ (by omega) rfl
      have g2 : wr.cell? ⟨b, off + k * 6 + 2, none⟩ = some (.int .u64 tg) := row_cell HRr HN.out k _ hx 2 _ (by omega) rfl
      have g3 : wr.cell? ⟨b, off + k * 6 + 3, none⟩ = some (.int .u64 asd) := row_cell HRr HN.out k _ hx 3 _ (by omega) rfl
      have g4 : wr.cell? ⟨b, off + k * 6 + 4, none⟩ = some (.bool gl) := row_cell HRr HN.out k _ hx 4 _ (by omega) rfl
      have g5 : wr.cell? ⟨b, off + k * 6 + 5, none⟩ = some (.int .u64 pt) := row_cell HRr HN.out k _ hx 5 _ (by omega) rfl
      have HX : Hid (es[k]? = some ⟨v, lv, tg, asd, gl, pt⟩) := hx
      have HPf : Hid (placeM ⟨1, ways, es⟩ p k ⟨v, lv, tg, asd, gl, pt⟩ = false → false = R) := fun h => by rw [← HP.out]; exact (placesM_false _ p es 0 k _ hx (by rw [Nat.zero_add]; exact h)).symm
      have HPt : Hid (placeM ⟨1, ways, es⟩ p k ⟨v, lv, tg, asd, gl, pt⟩ = true → ∀ j x, j < k + 1 → es[j]? = some x → placeM ⟨1, ways, es⟩ p j x = true) := fun h j x hj hx' => by
        by_cases e : j = k
        · subst e; rw [hx] at hx'; cases hx'; exact h
        · exact HA.out j x (by omega) hx'
      clear hx HRr
      have a2 := alloc_facts wr #[.bool v, .int .i64 lv, .int .u64 tg, .int .u64 asd, .bool gl, .int .u64 pt] 91
      go_wp2_with fail
      generalize wr.alloc (Obj.cells #[.bool v, .int .i64 lv, .int .u64 tg, .int .u64 asd, .bool gl, .int .u64 pt] 91) = v2 at a2 ⊢
      obtain ⟨l3, c2, n2⟩ := a2
      have k0 := lies_cell (c2 0) l3
      have k1 := lies_cell (c2 1) l3
      have k2 := lies_cell (c2 2) l3
      have k3 := lies_cell (c2 3) l3
      have k4 := lies_cell (c2 4) l3
      have k5 := lies_cell (c2 5) l3
      have j0 := lies_cell (Below.cell2 n2 d10 l2) (Nat.lt_trans l2 l3)
      have j1 := lies_cell (Below.cell2 n2 d11 l2) (Nat.lt_trans l2 l3)
      have hb2 := Below.step hb n2 (Nat.le_refl _)
      have n12 := Below.step n1 hb2 (Nat.le_refl _)
      have ne := lies_some v2
      clear c2 d10 d11 d12 hb n2 g0 g1 g2 g3 g4 g5 c10 c11 c12 n1r
      obtain ⟨gd, hgd⟩ : ∃ gd, goodEntM ⟨v, lv, tg, asd, gl, pt⟩ p = gd := ⟨_, rfl⟩
      have HGd : Hid (∀ u : Lies v2, Calls Try.prog 67 #[entV ⟨v, lv, tg, asd, gl, pt⟩, .bool p] u.w fun e w' => e = .returned (.bool gd) ∧ Below u.w.heap.size u.w w') := fun u => by
        have := l4GoodEntry_any ⟨v, lv, tg, asd, gl, pt⟩ p u.w hok
        rw [hgd] at this
        exact this
      have HGv : Hid (goodEntM ⟨v, lv, tg, asd, gl, pt⟩ p = gd) := hgd
      clear hgd
      cases v
      · have hgf : gd = false := by rw [← HGv.out]; simp [goodEntM]
        subst hgf
        by_cases q1n : ¬ (lv = 0)
        · have q1 : (lv == 0) = false := by simpa using q1n
          have HQ : Hid ((lv == 0) = false) := q1
          clear q1n
          refine wp_region_lies (by kernel_rfl) (by kernel_rfl) ?_
          repeat (go_big_quiet_step ((go_at_call 67; exact lies_quiet _ (HGd.out _))))
          refine wpQuiet_nil ?_
          rintro _ ⟨u, rfl⟩
          go_wp2_with fail
          go_ret
          exact ⟨ret_bool (HPf.out (by simp [placeM, HGv.out, HQ.out])), Below.step n12 u.h (Nat.le_refl _)⟩
        have q1z : lv = 0 := Decidable.not_not.1 q1n
        subst q1z
        clear q1n
        by_cases q2n : ¬ (tg = 0)
        · have q2 : (tg == 0) = false := by simpa using q2n
          have HQ : Hid ((tg == 0) = false) := q2
          clear q2n
          refine wp_region_lies (by kernel_rfl) (by kernel_rfl) ?_
          repeat (go_big_quiet_step ((go_at_call 67; exact lies_quiet _ (HGd.out _))))
          refine wpQuiet_nil ?_
          rintro _ ⟨u, rfl⟩
          go_wp2_with fail
          go_ret
          exact ⟨ret_bool (HPf.out (by simp [placeM, HGv.out, HQ.out])), Below.step n12 u.h (Nat.le_refl _)⟩
        have q2z : tg = 0 := Decidable.not_not.1 q2n
        subst q2z
        clear q2n
        by_cases q3n : ¬ (asd = 0)
        · have q3 : (asd == 0) = false := by simpa using q3n
          have HQ : Hid ((asd == 0) = false) := q3
          clear q3n
          refine wp_region_lies (by kernel_rfl) (by kernel_rfl) ?_
          repeat (go_big_quiet_step ((go_at_call 67; exact lies_quiet _ (HGd.out _))))
          refine wpQuiet_nil ?_
          rintro _ ⟨u, rfl⟩
          go_wp2_with fail
          go_ret
          exact ⟨ret_bool (HPf.out (by simp [placeM, HGv.out, HQ.out])), Below.step n12 u.h (Nat.le_refl _)⟩
        have q3z : asd = 0 := Decidable.not_not.1 q3n
        subst q3z
        clear q3n
        cases hgl : gl
        · subst hgl
          by_cases q5n : ¬ (pt = 0)
          · have q5 : (pt == 0) = false := by simpa using q5n
            have HQ : Hid ((pt == 0) = false) := q5
            clear q5n
            refine wp_region_lies (by kernel_rfl) (by kernel_rfl) ?_
            repeat (go_big_quiet_step ((go_at_call 67; exact lies_quiet _ (HGd.out _))))
            refine wpQuiet_nil ?_
            rintro _ ⟨u, rfl⟩
            go_wp2_with fail
            go_ret
            exact ⟨ret_bool (HPf.out (by simp [placeM, HGv.out, HQ.out])), Below.step n12 u.h (Nat.le_refl _)⟩
          have q5z : pt = 0 := Decidable.not_not.1 q5n
          subst q5z
          clear q5n
          refine wp_region_lies (by kernel_rfl) (by kernel_rfl) ?_
          repeat (go_big_quiet_step ((go_at_call 67; exact lies_quiet _ (HGd.out _))))
          refine wpQuiet_nil ?_
          rintro _ ⟨u, rfl⟩
          go_wp2_with fail
          go_roundw
          case rel => exact ⟨k + 1, by omega, by go_num, HPt.out (by simp [placeM]), Below.step hb2 u.h (Nat.le_refl _)⟩
          case measure => simp [intOf]; omega
        · subst hgl
          refine wp_region_lies (by kernel_rfl) (by kernel_rfl) ?_
          repeat (go_big_quiet_step ((go_at_call 67; exact lies_quiet _ (HGd.out _))))
          refine wpQuiet_nil ?_
          rintro _ ⟨u, rfl⟩
          go_wp2_with fail
          go_ret
          exact ⟨ret_bool (HPf.out (by simp [placeM, HGv.out])), Below.step n12 u.h (Nat.le_refl _)⟩
      · cases gd
        · -- not good
          refine wp_region_lies (by kernel_rfl) (by kernel_rfl) ?_
          repeat (go_big_quiet_step ((go_at_call 67; exact lies_quiet _ (HGd.out _))))
          refine wpQuiet_nil ?_
          rintro _ ⟨u, rfl⟩
          go_wp2_with fail
          go_ret
          exact ⟨ret_bool (HPf.out (by simp [placeM, HGv.out])), Below.step n12 u.h (Nat.le_refl _)⟩
        · have htg : tg < 512 := good_tag HGv.out
          have htg0 : 0 ≤ tg := hok.2.1.1
          have hd0 : 0 ≤ (k : Int) / ways := Int.ediv_nonneg (by omega) (by omega)
          have hd1 : (k : Int) / ways ≤ 1048576 := Int.le_trans (Int.ediv_le_self _ (by omega)) (by omega)
          by_cases hq : tg % 1 = (k : Int) / ways
          · have hq' : ((0 : Int) != (k : Int) / ways) = false := by rw [bne_eq_false_iff_eq]; omega
            have HQ : Hid (tg % 1 = (k : Int) / ways) := hq
            clear hq
            refine wp_region_lies (by kernel_rfl) (by kernel_rfl) ?_
            repeat (go_big_quiet_step ((go_at_call 67; exact lies_quiet _ (HGd.out _))))
            refine wpQuiet_nil ?_
            rintro _ ⟨u, rfl⟩
            go_wp2_with fail
            go_roundw
            case rel => exact ⟨k + 1, by omega, by go_num, HPt.out (by simp [placeM, HGv.out, HQ.out]), Below.step hb2 u.h (Nat.le_refl _)⟩
            case measure => simp [intOf]; omega
          · have hq' : ((0 : Int) != (k : Int) / ways) = true := by rw [bne_iff_ne]; omega
            have HQ : Hid (¬ tg % 1 = (k : Int) / ways) := hq
            clear hq
            refine wp_region_lies (by kernel_rfl) (by kernel_rfl) ?_
            repeat (go_big_quiet_step ((go_at_call 67; exact lies_quiet _ (HGd.out _))))
            refine wpQuiet_nil ?_
            rintro _ ⟨u, rfl⟩
            go_wp2_with fail
            go_ret
            exact ⟨ret_bool (HPf.out (by have hz := HQ.out; rw [Int.emod_one] at hz; simp [placeM, hz])), Below.step n12 u.h (Nat.le_refl _)⟩
    · have hkn : k = n := by omega
      subst hkn
      have HT : Hid (true = R) := by
        show true = R
        rw [← HP.out]
        exact (placesM_true _ p es 0 (fun j x hx => by rw [Nat.zero_add]; exact HA.out j x (by have h1 := (List.getElem?_eq_some_iff.1 hx).1; have h2 := HN.out; omega) hx)).symm
      clear c10 c11 c12 n1 d10 d11
      go_wp2_with fail
      go_ret
      exact ⟨ret_bool HT.out, n1r⟩

end Go.Proofs.Ythekickjjaleaac

/- The specification's ValidTlb at 2 sets. -/
namespace Go.Proofs.Ythekickjjaleaac
open Go.RowKit
set_option linter.unusedVariables false
attribute [local go_sem ↓] Go.wp_at_zero Go.wp_at_succ

set_option maxHeartbeats 6400000 in
theorem specValid_2 (b off : Nat) (cap : Nat) (ways : Int) (es : List EntM) (n : Nat) (p : Bool) (w : World) (hr : RowC w (some ⟨b, off, none⟩) n 6 (entsC es)) (he : ∀ e ∈ es, entOk e) (hl : n ≤ 1048576) (hN : es.length = n)
   (hw : 1 ≤ ways) (hw' : ways ≤ 4) (hn : (n : Int) = 2 * ways) :
    Calls Try.prog 58 #[.agg #[.int .i64 2, .int .i64 ways, .slice (some ⟨b, off, none⟩) n cap], .bool p] w fun e w' => e = .returned (.bool (placesM ⟨2, ways, es⟩ p 0 es)) ∧ Below w.heap.size w w' := by
  have a1 := alloc_facts w #[.int .i64 2, .int .i64 ways, .slice (some ⟨b, off, none⟩) n cap] 27
  have hn' : ((n : Int) != 2 * ways) = false := by rw [bne_eq_false_iff_eq]; omega
  have HN : Hid (es.length = n) := hN
  have HR : Hid (RowC w (some ⟨b, off, none⟩) n 6 (entsC es)) := hr
  have HE : Hid (∀ e ∈ es, entOk e) := he
  obtain ⟨R, hR⟩ : ∃ R, placesM ⟨2, ways, es⟩ p 0 es = R := ⟨_, rfl⟩
  rw [hR]
  have HP : Hid (placesM ⟨2, ways, es⟩ p 0 es = R) := hR
  clear hN hr he hn hR
  go_enter Try.func58, Try.ntmps58
  go_wp2_with fail
  generalize w.alloc (Obj.cells #[.int .i64 2, .int .i64 ways, .slice (some ⟨b, off, none⟩) n cap] 27) = v1 at a1 ⊢
  obtain ⟨l1, c1, n1⟩ := a1
  have c10 : v1.cell? ⟨w.heap.size, 0, none⟩ = some (.int .i64 2) := c1 0
  have c11 : v1.cell? ⟨w.heap.size, 1, none⟩ = some (.int .i64 ways) := c1 1
  have c12 : v1.cell? ⟨w.heap.size, 2, none⟩ = some (.slice (some ⟨b, off, none⟩) n cap) := c1 2
  clear c1
  go_loopw [5] (fun i wr => ∃ k : Nat, k ≤ n ∧ i = .int .i64 k ∧ (∀ j x, j < k → es[j]? = some x → placeM ⟨2, ways, es⟩ p j x = true) ∧ Below v1.heap.size v1 wr) (fun i _ => n - (intOf i).toNat)
  case atStart => exact ⟨0, Nat.zero_le _, rfl, fun j x hj => absurd hj (by omega), Below.refl _ _⟩
  case round =>
    obtain ⟨k, hk, rfl, hall, hb⟩ := hrel
    have HA : Hid (∀ j x, j < k → es[j]? = some x → placeM ⟨2, ways, es⟩ p j x = true) := hall
    clear hall
    have d10 := Below.cell2 hb c10 l1
    have d11 := Below.cell2 hb c11 l1
    have d12 := Below.cell2 hb c12 l1
    have l2 : w.heap.size < wr.heap.size := Nat.lt_of_lt_of_le l1 hb.size
    have n1r := Below.step n1 hb (Nat.le_refl _)
    by_cases hlt : k < n
    · have hx : ∃ x : EntM, es[k]? = some x := ⟨_, List.getElem?_eq_getElem (by have := HN.out; omega)⟩
      obtain ⟨⟨v, lv, tg, asd, gl, pt⟩, hx⟩ := hx
      have hok : entOk ⟨v, lv, tg, asd, gl, pt⟩ := HE.out _ (List.mem_of_getElem? hx)
      have HRr := RowC.keep HR.out n1r
      have g0 : wr.cell? ⟨b, off + k * 6, none⟩ = some (.bool v) := row_cell HRr HN.out k _ hx 0 _ (by omega) rfl
      have g1 : wr.cell? ⟨b, off + k * 6 + 1, none⟩ = some (.int .i64 lv) := row_cell HRr HN.out k _ hx 1 _ (by omega) rfl
      have g2 : wr.cell? ⟨b, off + k * 6 + 2, none⟩ = some (.int .u64 tg) := row_cell HRr HN.out k _ hx 2 _ (by omega) rfl
      have g3 : wr.cell? ⟨b, off + k * 6 + 3, none⟩ = some (.int .u64 asd) := row_cell HRr HN.out k _ hx 3 _ (by omega) rfl
      have g4 : wr.cell? ⟨b, off + k * 6 + 4, none⟩ = some (.bool gl) := row_cell HRr HN.out k _ hx 4 _ (by omega) rfl
      have g5 : wr.cell? ⟨b, off + k * 6 + 5, none⟩ = some (.int .u64 pt) := row_cell HRr HN.out k _ hx 5 _ (by omega) rfl
      have HX : Hid (es[k]? = some ⟨v, lv, tg, asd, gl, pt⟩) := hx
      have HPf : Hid (placeM ⟨2, ways, es⟩ p k ⟨v, lv, tg, asd, gl, pt⟩ = false → false = R) := fun h => by rw [← HP.out]; exact (placesM_false _ p es 0 k _ hx (by rw [Nat.zero_add]; exact h)).symm
      have HPt : Hid (placeM ⟨2, ways, es⟩ p k ⟨v, lv, tg, asd, gl, pt⟩ = true → ∀ j x, j < k + 1 → es[j]? = some x → placeM ⟨2, ways, es⟩ p j x = true) := fun h j x hj hx' => by
        by_cases e : j = k
        · subst e; rw [hx] at hx'; cases hx'; exact h
        · exact HA.out j x (by omega) hx'
      clear hx HRr
      have a2 := alloc_facts wr #[.bool v, .int .i64 lv, .int .u64 tg, .int .u64 asd, .bool gl, .int .u64 pt] 91
      go_wp2_with fail
      generalize wr.alloc (Obj.cells #[.bool v, .int .i64 lv, .int .u64 tg, .int .u64 asd, .bool gl, .int .u64 pt] 91) = v2 at a2 ⊢
      obtain ⟨l3, c2, n2⟩ := a2
      have k0 := lies_cell (c2 0) l3
      have k1 := lies_cell (c2 1) l3
      have k2 := lies_cell (c2 2) l3
      have k3 := lies_cell (c2 3) l3
      have k4 := lies_cell (c2 4) l3
      have k5 := lies_cell (c2 5) l3
      have j0 := lies_cell (Below.cell2 n2 d10 l2) (Nat.lt_trans l2 l3)
      have j1 := lies_cell (Below.cell2 n2 d11 l2) (Nat.lt_trans l2 l3)
      have hb2 := Below.step hb n2 (Nat.le_refl _)
      have n12 := Below.step n1 hb2 (Nat.le_refl _)
      have ne := lies_some v2
      clear c2 d10 d11 d12 hb n2 g0 g1 g2 g3 g4 g5 c10 c11 c12 n1r
      obtain ⟨gd, hgd⟩ : ∃ gd, goodEntM ⟨v, lv, tg, asd, gl, pt⟩ p = gd := ⟨_, rfl⟩
      have HGd : Hid (∀ u : Lies v2, Calls Try.prog 67 #[entV ⟨v, lv, tg, asd, gl, pt⟩, .bool p] u.w fun e w' => e = .returned (.bool gd) ∧ Below u.w.heap.size u.w w') := fun u => by
        have := l4GoodEntry_any ⟨v, lv, tg, asd, gl, pt⟩ p u.w hok
        rw [hgd] at this
        exact this
      have HGv : Hid (goodEntM ⟨v, lv, tg, asd, gl, pt⟩ p = gd) := hgd
      clear hgd
      cases v
      · have hgf : gd = false := by rw [← HGv.out]; simp [goodEntM]
        subst hgf
        by_cases q1n : ¬ (lv = 0)
        · have q1 : (lv == 0) = false := by simpa using q1n
          have HQ : Hid ((lv == 0) = false) := q1
          clear q1n
          refine wp_region_lies (by kernel_rfl) (by kernel_rfl) ?_
          repeat (go_big_quiet_step ((go_at_call 67; exact lies_quiet _ (HGd.out _))))
          refine wpQuiet_nil ?_
          rintro _ ⟨u, rfl⟩
          go_wp2_with fail
          go_ret
          exact ⟨ret_bool (HPf.out (by simp [placeM, HGv.out, HQ.out])), Below.step n12 u.h (Nat.le_refl _)⟩
        have q1z : lv = 0 := Decidable.not_not.1 q1n
        subst q1z
        clear q1n
        by_cases q2n : ¬ (tg = 0)
        · have q2 : (tg == 0) = false := by simpa using q2n
          have HQ : Hid ((tg == 0) = false) := q2
          clear q2n
          refine wp_region_lies (by kernel_rfl) (by kernel_rfl) ?_
          repeat (go_big_quiet_step ((go_at_call 67; exact lies_quiet _ (HGd.out _))))
          refine wpQuiet_nil ?_
          rintro _ ⟨u, rfl⟩
          go_wp2_with fail
          go_ret
          exact ⟨ret_bool (HPf.out (by simp [placeM, HGv.out, HQ.out])), Below.step n12 u.h (Nat.le_refl _)⟩
        have q2z : tg = 0 := Decidable.not_not.1 q2n
        subst q2z
        clear q2n
        by_cases q3n : ¬ (asd = 0)
        · have q3 : (asd == 0) = false := by simpa using q3n
          have HQ : Hid ((asd == 0) = false) := q3
          clear q3n
          refine wp_region_lies (by kernel_rfl) (by kernel_rfl) ?_
          repeat (go_big_quiet_step ((go_at_call 67; exact lies_quiet _ (HGd.out _))))
          refine wpQuiet_nil ?_
          rintro _ ⟨u, rfl⟩
          go_wp2_with fail
          go_ret
          exact ⟨ret_bool (HPf.out (by simp [placeM, HGv.out, HQ.out])), Below.step n12 u.h (Nat.le_refl _)⟩
        have q3z : asd = 0 := Decidable.not_not.1 q3n
        subst q3z
        clear q3n
        cases hgl : gl
        · subst hgl
          by_cases q5n : ¬ (pt = 0)
          · have q5 : (pt == 0) = false := by simpa using q5n
            have HQ : Hid ((pt == 0) = false) := q5
            clear q5n
            refine wp_region_lies (by kernel_rfl) (by kernel_rfl) ?_
            repeat (go_big_quiet_step ((go_at_call 67; exact lies_quiet _ (HGd.out _))))
            refine wpQuiet_nil ?_
            rintro _ ⟨u, rfl⟩
            go_wp2_with fail
            go_ret
            exact ⟨ret_bool (HPf.out (by simp [placeM, HGv.out, HQ.out])), Below.step n12 u.h (Nat.le_refl _)⟩
          have q5z : pt = 0 := Decidable.not_not.1 q5n
          subst q5z
          clear q5n
          refine wp_region_lies (by kernel_rfl) (by kernel_rfl) ?_
          repeat (go_big_quiet_step ((go_at_call 67; exact lies_quiet _ (HGd.out _))))
          refine wpQuiet_nil ?_
          rintro _ ⟨u, rfl⟩
          go_wp2_with fail
          go_roundw
          case rel => exact ⟨k + 1, by omega, by go_num, HPt.out (by simp [placeM]), Below.step hb2 u.h (Nat.le_refl _)⟩
          case measure => simp [intOf]; omega
        · subst hgl
          refine wp_region_lies (by kernel_rfl) (by kernel_rfl) ?_
          repeat (go_big_quiet_step ((go_at_call 67; exact lies_quiet _ (HGd.out _))))
          refine wpQuiet_nil ?_
          rintro _ ⟨u, rfl⟩
          go_wp2_with fail
          go_ret
          exact ⟨ret_bool (HPf.out (by simp [placeM, HGv.out])), Below.step n12 u.h (Nat.le_refl _)⟩
      · cases gd
        · -- not good
          refine wp_region_lies (by kernel_rfl) (by kernel_rfl) ?_
          repeat (go_big_quiet_step ((go_at_call 67; exact lies_quiet _ (HGd.out _))))
          refine wpQuiet_nil ?_
          rintro _ ⟨u, rfl⟩
          go_wp2_with fail
          go_ret
          exact ⟨ret_bool (HPf.out (by simp [placeM, HGv.out])), Below.step n12 u.h (Nat.le_refl _)⟩
        · have htg : tg < 512 := good_tag HGv.out
          have htg0 : 0 ≤ tg := hok.2.1.1
          have hd0 : 0 ≤ (k : Int) / ways := Int.ediv_nonneg (by omega) (by omega)
          have hd1 : (k : Int) / ways ≤ 1048576 := Int.le_trans (Int.ediv_le_self _ (by omega)) (by omega)
          by_cases hq : tg % 2 = (k : Int) / ways
          · have hq' : (tg % 2 != (k : Int) / ways) = false := by rw [bne_eq_false_iff_eq]; exact hq
            have HQ : Hid (tg % 2 = (k : Int) / ways) := hq
            clear hq
            refine wp_region_lies (by kernel_rfl) (by kernel_rfl) ?_
            repeat (go_big_quiet_step ((go_at_call 67; exact lies_quiet _ (HGd.out _))))
            refine wpQuiet_nil ?_
            rintro _ ⟨u, rfl⟩
            go_wp2_with fail
            go_roundw
            case rel => exact ⟨k + 1, by omega, by go_num, HPt.out (by simp [placeM, HGv.out, HQ.out]), Below.step hb2 u.h (Nat.le_refl _)⟩
            case measure => simp [intOf]; omega
          · have hq' : (tg % 2 != (k : Int) / ways) = true := by rw [bne_iff_ne]; exact hq
            have HQ : Hid (¬ tg % 2 = (k : Int) / ways) := hq
            clear hq
            refine wp_region_lies (by kernel_rfl) (by kernel_rfl) ?_
            repeat (go_big_quiet_step ((go_at_call 67; exact lies_quiet _ (HGd.out _))))
            refine wpQuiet_nil ?_
            rintro _ ⟨u, rfl⟩
            go_wp2_with fail
            go_ret
            exact ⟨ret_bool (HPf.out (by simp [placeM, HQ.out])), Below.step n12 u.h (Nat.le_refl _)⟩
    · have hkn : k = n := by omega
      subst hkn
      have HT : Hid (true = R) := by
        show true = R
        rw [← HP.out]
        exact (placesM_true _ p es 0 (fun j x hx => by rw [Nat.zero_add]; exact HA.out j x (by have h1 := (List.getElem?_eq_some_iff.1 hx).1; have h2 := HN.out; omega) hx)).symm
      clear c10 c11 c12 n1 d10 d11
      go_wp2_with fail
      go_ret
      exact ⟨ret_bool HT.out, n1r⟩

end Go.Proofs.Ythekickjjaleaac

/- The specification's ValidTlb at 8 sets. -/
namespace Go.Proofs.Ythekickjjaleaac
open Go.RowKit
set_option linter.unusedVariables false
attribute [local go_sem ↓] Go.wp_at_zero Go.wp_at_succ

set_option maxHeartbeats 6400000 in
theorem specValid_8 (b off : Nat) (cap : Nat) (ways : Int) (es : List EntM) (n : Nat) (p : Bool) (w : World) (hr : RowC w (some ⟨b, off, none⟩) n 6 (entsC es)) (he : ∀ e ∈ es, entOk e) (hl : n ≤ 1048576) (hN : es.length = n)
   (hw : 1 ≤ ways) (hw' : ways ≤ 4) (hn : (n : Int) = 8 * ways) :
    Calls Try.prog 58 #[.agg #[.int .i64 8, .int .i64 ways, .slice (some ⟨b, off, none⟩) n cap], .bool p] w fun e w' => e = .returned (.bool (placesM ⟨8, ways, es⟩ p 0 es)) ∧ Below w.heap.size w w' := by
  have a1 := alloc_facts w #[.int .i64 8, .int .i64 ways, .slice (some ⟨b, off, none⟩) n cap] 27
  have hn' : ((n : Int) != 8 * ways) = false := by rw [bne_eq_false_iff_eq]; omega
  have HN : Hid (es.length = n) := hN
  have HR : Hid (RowC w (some ⟨b, off, none⟩) n 6 (entsC es)) := hr
  have HE : Hid (∀ e ∈ es, entOk e) := he
  obtain ⟨R, hR⟩ : ∃ R, placesM ⟨8, ways, es⟩ p 0 es = R := ⟨_, rfl⟩
  rw [hR]
  have HP : Hid (placesM ⟨8, ways, es⟩ p 0 es = R) := hR
  clear hN hr he hn hR
  go_enter Try.func58, Try.ntmps58
  go_wp2_with fail
  generalize w.alloc (Obj.cells #[.int .i64 8, .int .i64 ways, .slice (some ⟨b, off, none⟩) n cap] 27) = v1 at a1 ⊢
  obtain ⟨l1, c1, n1⟩ := a1
  have c10 : v1.cell? ⟨w.heap.size, 0, none⟩ = some (.int .i64 8) := c1 0
  have c11 : v1.cell? ⟨w.heap.size, 1, none⟩ = some (.int .i64 ways) := c1 1
  have c12 : v1.cell? ⟨w.heap.size, 2, none⟩ = some (.slice (some ⟨b, off, none⟩) n cap) := c1 2
  clear c1
  go_loopw [5] (fun i wr => ∃ k : Nat, k ≤ n ∧ i = .int .i64 k ∧ (∀ j x, j < k → es[j]? = some x → placeM ⟨8, ways, es⟩ p j x = true) ∧ Below v1.heap.size v1 wr) (fun i _ => n - (intOf i).toNat)
  case atStart => exact ⟨0, Nat.zero_le _, rfl, fun j x hj => absurd hj (by omega), Below.refl _ _⟩
  case round =>
    obtain ⟨k, hk, rfl, hall, hb⟩ := hrel
    have HA : Hid (∀ j x, j < k → es[j]? = some x → placeM ⟨8, ways, es⟩ p j x = true) := hall
    clear hall
    have d10 := Below.cell2 hb c10 l1
    have d11 := Below.cell2 hb c11 l1
    have d12 := Below.cell2 hb c12 l1
    have l2 : w.heap.size < wr.heap.size := Nat.lt_of_lt_of_le l1 hb.size
    have n1r := Below.step n1 hb (Nat.le_refl _)
    by_cases hlt : k < n
    · have hx : ∃ x : EntM, es[k]? = some x := ⟨_, List.getElem?_eq_getElem (by have := HN.out; omega)⟩
      obtain ⟨⟨v, lv, tg, asd, gl, pt⟩, hx⟩ := hx
      have hok : entOk ⟨v, lv, tg, asd, gl, pt⟩ := HE.out _ (List.mem_of_getElem? hx)
      have HRr := RowC.keep HR.out n1r
      have g0 : wr.cell? ⟨b, off + k * 6, none⟩ = some (.bool v) := row_cell HRr HN.out k _ hx 0 _ (by omega) rfl
      have g1 : wr.cell? ⟨b, off + k * 6 + 1, none⟩ = some (.int .i64 lv) := row_cell HRr HN.out k _ hx 1 _ (by omega) rfl
      have g2 : wr.cell? ⟨b, off + k * 6 + 2, none⟩ = some (.int .u64 tg) := row_cell HRr HN.out k _ hx 2 _ (by omega) rfl
      have g3 : wr.cell? ⟨b, off + k * 6 + 3, none⟩ = some (.int .u64 asd) := row_cell HRr HN.out k _ hx 3 _ (by omega) rfl
      have g4 : wr.cell? ⟨b, off + k * 6 + 4, none⟩ = some (.bool gl) := row_cell HRr HN.out k _ hx 4 _ (by omega) rfl
      have g5 : wr.cell? ⟨b, off + k * 6 + 5, none⟩ = some (.int .u64 pt) := row_cell HRr HN.out k _ hx 5 _ (by omega) rfl
      have HX : Hid (es[k]? = some ⟨v, lv, tg, asd, gl, pt⟩) := hx
      have HPf : Hid (placeM ⟨8, ways, es⟩ p k ⟨v, lv, tg, asd, gl, pt⟩ = false → false = R) := fun h => by rw [← HP.out]; exact (placesM_false _ p es 0 k _ hx (by rw [Nat.zero_add]; exact h)).symm
      have HPt : Hid (placeM ⟨8, ways, es⟩ p k ⟨v, lv, tg, asd, gl, pt⟩ = true → ∀ j x, j < k + 1 → es[j]? = some x → placeM ⟨8, ways, es⟩ p j x = true) := fun h j x hj hx' => by
        by_cases e : j = k
        · subst e; rw [hx] at hx'; cases hx'; exact h
        · exact HA.out j x (by omega) hx'
      clear hx HRr
      have a2 := alloc_facts wr #[.bool v, .int .i64 lv, .int .u64 tg, .int .u64 asd, .bool gl, .int .u64 pt] 91
      go_wp2_with fail
      generalize wr.alloc (Obj.cells #[.bool v, .int .i64 lv, .int .u64 tg, .int .u64 asd, .bool gl, .int .u64 pt] 91) = v2 at a2 ⊢
      obtain ⟨l3, c2, n2⟩ := a2
      have k0 := lies_cell (c2 0) l3
      have k1 := lies_cell (c2 1) l3
      have k2 := lies_cell (c2 2) l3
      have k3 := lies_cell (c2 3) l3
      have k4 := lies_cell (c2 4) l3
      have k5 := lies_cell (c2 5) l3
      have j0 := lies_cell (Below.cell2 n2 d10 l2) (Nat.lt_trans l2 l3)
      have j1 := lies_cell (Below.cell2 n2 d11 l2) (Nat.lt_trans l2 l3)
      have hb2 := Below.step hb n2 (Nat.le_refl _)
      have n12 := Below.step n1 hb2 (Nat.le_refl _)
      have ne := lies_some v2
      clear c2 d10 d11 d12 hb n2 g0 g1 g2 g3 g4 g5 c10 c11 c12 n1r
      obtain ⟨gd, hgd⟩ : ∃ gd, goodEntM ⟨v, lv, tg, asd, gl, pt⟩ p = gd := ⟨_, rfl⟩
      have HGd : Hid (∀ u : Lies v2, Calls Try.prog 67 #[entV ⟨v, lv, tg, asd, gl, pt⟩, .bool p] u.w fun e w' => e = .returned (.bool gd) ∧ Below u.w.heap.size u.w w') := fun u => by
        have := l4GoodEntry_any ⟨v, lv, tg, asd, gl, pt⟩ p u.w hok
        rw [hgd] at this
        exact this
      have HGv : Hid (goodEntM ⟨v, lv, tg, asd, gl, pt⟩ p = gd) := hgd
      clear hgd
      cases v
      · have hgf : gd = false := by rw [← HGv.out]; simp [goodEntM]
        subst hgf
        by_cases q1n : ¬ (lv = 0)
        · have q1 : (lv == 0) = false := by simpa using q1n
          have HQ : Hid ((lv == 0) = false) := q1
          clear q1n
          refine wp_region_lies (by kernel_rfl) (by kernel_rfl) ?_
          repeat (go_big_quiet_step ((go_at_call 67; exact lies_quiet _ (HGd.out _))))
          refine wpQuiet_nil ?_
          rintro _ ⟨u, rfl⟩
          go_wp2_with fail
          go_ret
          exact ⟨ret_bool (HPf.out (by simp [placeM, HGv.out, HQ.out])), Below.step n12 u.h (Nat.le_refl _)⟩
        have q1z : lv = 0 := Decidable.not_not.1 q1n
        subst q1z
        clear q1n
        by_cases q2n : ¬ (tg = 0)
        · have q2 : (tg == 0) = false := by simpa using q2n
          have HQ : Hid ((tg == 0) = false) := q2
          clear q2n
          refine wp_region_lies (by kernel_rfl) (by kernel_rfl) ?_
          repeat (go_big_quiet_step ((go_at_call 67; exact lies_quiet _ (HGd.out _))))
          refine wpQuiet_nil ?_
          rintro _ ⟨u, rfl⟩
          go_wp2_with fail
          go_ret
          exact ⟨ret_bool (HPf.out (by simp [placeM, HGv.out, HQ.out])), Below.step n12 u.h (Nat.le_refl _)⟩
        have q2z : tg = 0 := Decidable.not_not.1 q2n
        subst q2z
        clear q2n
        by_cases q3n : ¬ (asd = 0)
        · have q3 : (asd == 0) = false := by simpa using q3n
          have HQ : Hid ((asd == 0) = false) := q3
          clear q3n
          refine wp_region_lies (by kernel_rfl) (by kernel_rfl) ?_
          repeat (go_big_quiet_step ((go_at_call 67; exact lies_quiet _ (HGd.out _))))
          refine wpQuiet_nil ?_
          rintro _ ⟨u, rfl⟩
          go_wp2_with fail
          go_ret
          exact ⟨ret_bool (HPf.out (by simp [placeM, HGv.out, HQ.out])), Below.step n12 u.h (Nat.le_refl _)⟩
        have q3z : asd = 0 := Decidable.not_not.1 q3n
        subst q3z
        clear q3n
        cases hgl : gl
        · subst hgl
          by_cases q5n : ¬ (pt = 0)
          · have q5 : (pt == 0) = false := by simpa using q5n
            have HQ : Hid ((pt == 0) = false) := q5
            clear q5n
            refine wp_region_lies (by kernel_rfl) (by kernel_rfl) ?_
            repeat (go_big_quiet_step ((go_at_call 67; exact lies_quiet _ (HGd.out _))))
            refine wpQuiet_nil ?_
            rintro _ ⟨u, rfl⟩
            go_wp2_with fail
            go_ret
            exact ⟨ret_bool (HPf.out (by simp [placeM, HGv.out, HQ.out])), Below.step n12 u.h (Nat.le_refl _)⟩
          have q5z : pt = 0 := Decidable.not_not.1 q5n
          subst q5z
          clear q5n
          refine wp_region_lies (by kernel_rfl) (by kernel_rfl) ?_
          repeat (go_big_quiet_step ((go_at_call 67; exact lies_quiet _ (HGd.out _))))
          refine wpQuiet_nil ?_
          rintro _ ⟨u, rfl⟩
          go_wp2_with fail
          go_roundw
          case rel => exact ⟨k + 1, by omega, by go_num, HPt.out (by simp [placeM]), Below.step hb2 u.h (Nat.le_refl _)⟩
          case measure => simp [intOf]; omega
        · subst hgl
          refine wp_region_lies (by kernel_rfl) (by kernel_rfl) ?_
          repeat (go_big_quiet_step ((go_at_call 67; exact lies_quiet _ (HGd.out _))))
          refine wpQuiet_nil ?_
          rintro _ ⟨u, rfl⟩
          go_wp2_with fail
          go_ret
          exact ⟨ret_bool (HPf.out (by simp [placeM, HGv.out])), Below.step n12 u.h (Nat.le_refl _)⟩
      · cases gd
        · -- not good
          refine wp_region_lies (by kernel_rfl) (by kernel_rfl) ?_
          repeat (go_big_quiet_step ((go_at_call 67; exact lies_quiet _ (HGd.out _))))
          refine wpQuiet_nil ?_
          rintro _ ⟨u, rfl⟩
          go_wp2_with fail
          go_ret
          exact ⟨ret_bool (HPf.out (by simp [placeM, HGv.out])), Below.step n12 u.h (Nat.le_refl _)⟩
        · have htg : tg < 512 := good_tag HGv.out
          have htg0 : 0 ≤ tg := hok.2.1.1
          have hd0 : 0 ≤ (k : Int) / ways := Int.ediv_nonneg (by omega) (by omega)
          have hd1 : (k : Int) / ways ≤ 1048576 := Int.le_trans (Int.ediv_le_self _ (by omega)) (by omega)
          by_cases hq : tg % 8 = (k : Int) / ways
          · have hq' : (tg % 8 != (k : Int) / ways) = false := by rw [bne_eq_false_iff_eq]; exact hq
            have HQ : Hid (tg % 8 = (k : Int) / ways) := hq
            clear hq
            refine wp_region_lies (by kernel_rfl) (by kernel_rfl) ?_
            repeat (go_big_quiet_step ((go_at_call 67; exact lies_quiet _ (HGd.out _))))
            refine wpQuiet_nil ?_
            rintro _ ⟨u, rfl⟩
            go_wp2_with fail
            go_roundw
            case rel => exact ⟨k + 1, by omega, by go_num, HPt.out (by simp [placeM, HGv.out, HQ.out]), Below.step hb2 u.h (Nat.le_refl _)⟩
            case measure => simp [intOf]; omega
          · have hq' : (tg % 8 != (k : Int) / ways) = true := by rw [bne_iff_ne]; exact hq
            have HQ : Hid (¬ tg % 8 = (k : Int) / ways) := hq
            clear hq
            refine wp_region_lies (by kernel_rfl) (by kernel_rfl) ?_
            repeat (go_big_quiet_step ((go_at_call 67; exact lies_quiet _ (HGd.out _))))
            refine wpQuiet_nil ?_
            rintro _ ⟨u, rfl⟩
            go_wp2_with fail
            go_ret
            exact ⟨ret_bool (HPf.out (by simp [placeM, HQ.out])), Below.step n12 u.h (Nat.le_refl _)⟩
    · have hkn : k = n := by omega
      subst hkn
      have HT : Hid (true = R) := by
        show true = R
        rw [← HP.out]
        exact (placesM_true _ p es 0 (fun j x hx => by rw [Nat.zero_add]; exact HA.out j x (by have h1 := (List.getElem?_eq_some_iff.1 hx).1; have h2 := HN.out; omega) hx)).symm
      clear c10 c11 c12 n1 d10 d11
      go_wp2_with fail
      go_ret
      exact ⟨ret_bool HT.out, n1r⟩

end Go.Proofs.Ythekickjjaleaac

/- The specification's ValidTlb, whole; l4Either, l4GoodCaches. -/
namespace Go.Proofs.Ythekickjjaleaac
open Go.RowKit
set_option linter.unusedVariables false

set_option maxHeartbeats 1600000 in
/-- A shape that is not right. -/
theorem specValid_no (a : Option Addr) (n cap : Nat) (sets ways : Int) (p : Bool) (w : World) (hl : n ≤ 1048576) (hs : -9223372036854775808 ≤ sets ∧ sets ≤ 9223372036854775807) (hw : -9223372036854775808 ≤ ways ∧ ways ≤ 9223372036854775807)
    (h : ¬ ((sets = 1 ∨ sets = 2 ∨ sets = 4 ∨ sets = 8) ∧ 1 ≤ ways ∧ ways ≤ 4 ∧ (n : Int) = sets * ways)) :
    Calls Try.prog 58 #[.agg #[.int .i64 sets, .int .i64 ways, .slice a n cap], .bool p] w fun e w' => e = .returned (.bool false) ∧ Below w.heap.size w w' := by
  by_cases h1 : sets = 1 ∨ sets = 2 ∨ sets = 4 ∨ sets = 8
  · by_cases h2 : ways < 1
    · rcases h1 with rfl | rfl | rfl | rfl
      all_goals
        go_enter Try.func58, Try.ntmps58
        go_wp2_with fail
        go_ret
        exact ⟨rfl, (Below.refl _ _).alloc (Nat.le_refl _) _⟩
    by_cases h3 : 4 < ways
    · rcases h1 with rfl | rfl | rfl | rfl
      all_goals
        go_enter Try.func58, Try.ntmps58
        go_wp2_with fail
        go_ret
        exact ⟨rfl, (Below.refl _ _).alloc (Nat.le_refl _) _⟩
    rcases h1 with rfl | rfl | rfl | rfl
    · have h4 : ((n : Int) != ways) = true := by rw [bne_iff_ne]; omega
      clear h
      go_enter Try.func58, Try.ntmps58
      go_wp2_with fail
      go_ret
      exact ⟨rfl, (Below.refl _ _).alloc (Nat.le_refl _) _⟩
    · have h4 : ((n : Int) != 2 * ways) = true := by rw [bne_iff_ne]; omega
      clear h
      go_enter Try.func58, Try.ntmps58
      go_wp2_with fail
      go_ret
      exact ⟨rfl, (Below.refl _ _).alloc (Nat.le_refl _) _⟩
    · have h4 : ((n : Int) != 4 * ways) = true := by rw [bne_iff_ne]; omega
      clear h
      go_enter Try.func58, Try.ntmps58
      go_wp2_with fail
      go_ret
      exact ⟨rfl, (Below.refl _ _).alloc (Nat.le_refl _) _⟩
    · have h4 : ((n : Int) != 8 * ways) = true := by rw [bne_iff_ne]; omega
      clear h
      go_enter Try.func58, Try.ntmps58
      go_wp2_with fail
      go_ret
      exact ⟨rfl, (Below.refl _ _).alloc (Nat.le_refl _) _⟩
  · have q1 : (sets != 1) = true := by rw [bne_iff_ne]; omega
    have q2 : (sets != 2) = true := by rw [bne_iff_ne]; omega
    have q4 : (sets != 4) = true := by rw [bne_iff_ne]; omega
    have q8 : (sets != 8) = true := by rw [bne_iff_ne]; omega
    clear h h1
    go_enter Try.func58, Try.ntmps58
    go_wp2_with fail
    go_ret
    exact ⟨rfl, (Below.refl _ _).alloc (Nat.le_refl _) _⟩

theorem specValid_any (v : Value) (t : TlbM) (p : Bool) (w : World) (h : TlbAt w v t) :
    Calls Try.prog 58 #[v, .bool p] w fun e w' => e = .returned (.bool (validM t p)) ∧ Below w.heap.size w w' := by
  obtain ⟨a, cap, rfl, hr, he, hs, hw, hl, hlc, hcm, hnil, hsp⟩ := h
  obtain ⟨sets, ways, es⟩ := t
  simp only at hr he hs hw hl hlc hnil ⊢
  by_cases hsh : (sets = 1 ∨ sets = 2 ∨ sets = 4 ∨ sets = 8) ∧ 1 ≤ ways ∧ ways ≤ 4 ∧ (es.length : Int) = sets * ways
  · have hv : validM ⟨sets, ways, es⟩ p = placesM ⟨sets, ways, es⟩ p 0 es := by simp only [validM, shapeM]; rw [decide_eq_true hsh, Bool.true_and]
    rw [hv]
    obtain ⟨h1, h2, h3, h4⟩ := hsh
    obtain ⟨b, off, rfl⟩ : ∃ b off, a = some ⟨b, off, none⟩ := by
      rcases hr.2 with h0 | ⟨b, off, rfl, _, _⟩
      · rw [h0] at h4
        rcases h1 with rfl | rfl | rfl | rfl <;> simp at h4 <;> omega
      · exact ⟨b, off, rfl⟩
    rcases h1 with rfl | rfl | rfl | rfl
    · exact specValid_1 b off cap ways es es.length p w hr he hl rfl h2 h3 h4
    · exact specValid_2 b off cap ways es es.length p w hr he hl rfl h2 h3 h4
    · exact specValid_4 b off cap ways es es.length p w hr he hl rfl h2 h3 h4
    · exact specValid_8 b off cap ways es es.length p w hr he hl rfl h2 h3 h4
  · have hv : validM ⟨sets, ways, es⟩ p = false := by simp only [validM, shapeM]; rw [decide_eq_false hsh, Bool.false_and]
    rw [hv]
    exact specValid_no a es.length cap sets ways p w hl hs hw hsh

end Go.Proofs.Ythekickjjaleaac

/- The specification's l4Either, l4Fits, Lookup. -/
namespace Go.Proofs.Ythekickjjaleaac
open Go.RowKit
set_option linter.unusedVariables false
attribute [local go_sem ↓] Go.wp_at_zero Go.wp_at_succ

theorem TlbAt.keep {w w' : World} {v : Value} {t : TlbM} (h : TlbAt w v t) (hb : Below w.heap.size w w') : TlbAt w' v t := by
  obtain ⟨a, cap, rfl, hr, r⟩ := h
  exact ⟨a, cap, rfl, hr.keep hb, r⟩

def eitherM (t : TlbM) : Bool := validM t true || validM t false
def fitsM (x : EntM) (va asid : Int) : Bool := x.valid && (x.tag == tagM va x.level) && (x.glob || x.asid == asid)

end Go.Proofs.Ythekickjjaleaac
