import Derived.Test.YthekickjjaleaabPack10
import Derived.Test.YthekickjjaleaabPack08
import Derived.BigRegion
import Derived.Test.YthekickjjaleaabPack01
import Derived.Test.YthekickjjaleaabPack02
/- The program's entry and tlb, for one kind of cache. Written by mk4.py. -/
namespace Go.Proofs.Ythekickjjaleaab
open Go.RowKit
set_option linter.unusedVariables false
attribute [local go_sem ↓] Go.wp_at_zero Go.wp_at_succ

theorem entryL_any (lv tg asd pt : Int) (gl vv : Bool) (w : World) :
    Calls Try.prog 156 #[.agg #[.int .i64 lv, .int .u64 tg, .int .u64 asd, .bool gl, .bool vv, .int .u64 pt]] w fun e w' => e = .returned (.agg #[.bool vv, .int .i64 lv, .int .u64 tg, .int .u64 asd, .bool gl, .int .u64 pt]) ∧ Below w.heap.size w w' := by
  have n1 := ((Below.refl w.heap.size w).alloc (Nat.le_refl _) (Obj.cells #[.int .i64 lv, .int .u64 tg, .int .u64 asd, .bool gl, .bool vv, .int .u64 pt] 172)).alloc (by simp) (Obj.cells #[.bool vv, .int .i64 lv, .int .u64 tg, .int .u64 asd, .bool gl, .int .u64 pt] 75)
  go_enter Try.func156, Try.ntmps156
  go_wp2_with fail
  exact bodyPost_ret (v := .agg #[.bool vv, .int .i64 lv, .int .u64 tg, .int .u64 asd, .bool gl, .int .u64 pt]) (by simp [results, Try.results156, go_sem]) rfl ⟨rfl, n1⟩

set_option maxRecDepth 20000 in
set_option maxHeartbeats 3200000 in
theorem tlbL_any (b o g n : Nat) (t : TlbM) (w : World) (hn : t.es.length = n) (hn1 : n ≤ 1048576) (hbl : b < w.heap.size) (hgl : g < w.heap.size)
    (c0 : w.cell? ⟨b, o, none⟩ = some (.int .i64 t.sets)) (c1 : w.cell? ⟨b, o + 1, none⟩ = some (.int .i64 t.ways)) (c2 : w.cell? ⟨b, o + 2, none⟩ = some (.slice (some ⟨g, 0, none⟩) n n)) (hr : RowC w (some ⟨g, 0, none⟩) n 6 (slotsC t.es)) :
    Calls Try.prog 143 #[.pointer (some ⟨b, o, none⟩)] w fun e w' => (∃ x, e = .returned x ∧ TlbOwn w.heap.size w' x t) ∧ Below w.heap.size w w' := by
  have HR : Hid (RowC w (some ⟨g, 0, none⟩) n 6 (slotsC t.es)) := hr
  have HN : Hid (t.es.length = n) := hn
  obtain ⟨sets, ways, es⟩ := t
  simp only at c0 c1 c2 HR HN
  clear hr hn
  obtain ⟨cs, hcs, hmk⟩ := makeE n hn1
  have n1 := (Below.refl w.heap.size w).alloc (Nat.le_refl _) (Obj.cells #[.int .i64 0, .int .i64 0, .slice none 0 0] 63)
  have H1 : Hid ((w.alloc (Obj.cells #[.int .i64 0, .int .i64 0, .slice none 0 0] 63)).heap[w.heap.size]? = some (.cells #[.int .i64 0, .int .i64 0, .slice none 0 0] 63 (0, 0))) := heap_alloc_new w _
  have l1 : (w.alloc (Obj.cells #[.int .i64 0, .int .i64 0, .slice none 0 0] 63)).heap.size = w.heap.size + 1 := by simp
  have nV : Below (w.alloc (Obj.cells #[.int .i64 0, .int .i64 0, .slice none 0 0] 63)).heap.size (w.alloc (Obj.cells #[.int .i64 0, .int .i64 0, .slice none 0 0] 63)) ((w.alloc (Obj.cells #[.int .i64 0, .int .i64 0, .slice none 0 0] 63)).alloc (.cells cs 75)) := (Below.refl _ _).alloc (Nat.le_refl _) _
  have hG : ((w.alloc (Obj.cells #[.int .i64 0, .int .i64 0, .slice none 0 0] 63)).alloc (.cells cs 75)).heap[w.heap.size + 1]? = some (.cells cs 75 (0, 0)) := by
    have := heap_alloc_new (w.alloc (Obj.cells #[.int .i64 0, .int .i64 0, .slice none 0 0] 63)) (.cells cs 75)
    simp only [World.size_alloc] at this
    exact this
  have hcl : cs.toList.length = n * 6 := by rw [hcs, entsC_len]; simp
  have O2 : Hid (((w.alloc (Obj.cells #[.int .i64 0, .int .i64 0, .slice none 0 0] 63)).alloc (.cells cs 75)).ownsRow (w.heap.size + 1) 75 6 (.slice (some ⟨w.heap.size + 1, 0, none⟩) n n) n (entsC (firstN 0 n es))) := by
    rw [firstN_start, ← hcs]
    exact ⟨hcl, .inr ⟨_, n, cs, rfl, Nat.le_refl _, hG, Nat.le_refl _, by unfold maxLen; omega, by rw [← hcl]; simp, List.take_of_length_le (by omega)⟩⟩
  have A2 := Below.step n1 nV (Nat.le_refl _)
  have K2 := hid_keep H1 nV
  have B2 : Below (w.heap.size + 1) ((w.alloc (Obj.cells #[.int .i64 0, .int .i64 0, .slice none 0 0] 63)).alloc (.cells cs 75)) ((w.alloc (Obj.cells #[.int .i64 0, .int .i64 0, .slice none 0 0] 63)).alloc (.cells cs 75)) := Below.refl _ _
  have l2 : ((w.alloc (Obj.cells #[.int .i64 0, .int .i64 0, .slice none 0 0] 63)).alloc (.cells cs 75)).heap.size = w.heap.size + 2 := by simp
  clear hG hcl hcs H1 n1 nV
  have e0 : w.heap.size ≠ b := by omega
  have e1 : w.heap.size + 1 ≠ b := by omega
  go_enter Try.func143, Try.ntmps143
  go_wp2_with fail
  generalize ((w.alloc (Obj.cells #[.int .i64 0, .int .i64 0, .slice none 0 0] 63)).alloc (.cells cs 75)) = v2 at O2 A2 K2 l2 B2 ⊢
  go_loopw [17] (fun i wr => ∃ k : Nat, k ≤ n ∧ i = .int .i64 k ∧ wr.ownsRow (w.heap.size + 1) 75 6 (.slice (some ⟨w.heap.size + 1, 0, none⟩) n n) n (entsC (firstN k n es)) ∧ Below (w.heap.size + 1) v2 wr) (fun i _ => n - (intOf i).toNat)
  case atStart => exact ⟨0, Nat.zero_le _, rfl, O2.out, B2⟩
  case round =>
    obtain ⟨k, hk, rfl, hO, hb⟩ := hrel
    have PO : Hid (wr.ownsRow (w.heap.size + 1) 75 6 (.slice (some ⟨w.heap.size + 1, 0, none⟩) n n) n (entsC (firstN k n es))) := hO
    have lg : w.heap.size + 1 < wr.heap.size := (own_at hO).2.2
    have A3 : Below w.heap.size w wr := A2.trans (hb.mono (by omega))
    have P1 : Hid (wr.heap[w.heap.size]? = some (.cells #[.int .i64 0, .int .i64 0, .slice none 0 0] 63 (0, 0))) := (hb.block w.heap.size (by omega)).trans K2.out
    clear hO
    have r0 : wr.cell? ⟨b, o, none⟩ = some (.int .i64 sets) := Below.cell2 A3 c0 hbl
    have r1 : wr.cell? ⟨b, o + 1, none⟩ = some (.int .i64 ways) := Below.cell2 A3 c1 hbl
    have r2 : wr.cell? ⟨b, o + 2, none⟩ = some (.slice (some ⟨g, 0, none⟩) n n) := Below.cell2 A3 c2 hbl
    by_cases hlt : k < n
    · obtain ⟨⟨vv, lv, tg, asd, gl, pt⟩, hx⟩ : ∃ x, es[k]? = some x := ⟨_, List.getElem?_eq_getElem (by rw [HN.out]; exact hlt)⟩
      have HXk : Hid (es[k]? = some ⟨vv, lv, tg, asd, gl, pt⟩) := hx
      have CE : ∀ j u, j < 6 → (slotC ⟨vv, lv, tg, asd, gl, pt⟩)[j]? = some u → wr.cell? ⟨g, k * 6 + j, none⟩ = some u := fun j u hj hu => slotRow_cell (HR.out.keep A3) HN.out k _ hx j u hj hu
      have g0 : wr.cell? ⟨g, k * 6, none⟩ = some (.int .i64 lv) := CE 0 _ (by omega) rfl
      have g1 : wr.cell? ⟨g, k * 6 + 1, none⟩ = some (.int .u64 tg) := CE 1 _ (by omega) rfl
      have g2 : wr.cell? ⟨g, k * 6 + 2, none⟩ = some (.int .u64 asd) := CE 2 _ (by omega) rfl
      have g3 : wr.cell? ⟨g, k * 6 + 3, none⟩ = some (.bool gl) := CE 3 _ (by omega) rfl
      have g4 : wr.cell? ⟨g, k * 6 + 4, none⟩ = some (.bool vv) := CE 4 _ (by omega) rfl
      have g5 : wr.cell? ⟨g, k * 6 + 5, none⟩ = some (.int .u64 pt) := CE 5 _ (by omega) rfl
      clear CE hx
      have n5 := (Below.refl wr.heap.size wr).alloc (Nat.le_refl _) (Obj.cells #[.int .i64 lv, .int .u64 tg, .int .u64 asd, .bool gl, .bool vv, .int .u64 pt] 172)
      go_wp2_with fail
      generalize wr.alloc (Obj.cells #[.int .i64 lv, .int .u64 tg, .int .u64 asd, .bool gl, .bool vv, .int .u64 pt] 172) = v5 at n5 ⊢
      refine (entryL_any lv tg asd pt gl vv v5).mono ?_
      rintro e v6 ⟨rfl, n6⟩
      have n56 := Below.step n5 n6 (Nat.le_refl _)
      have SO : Hid (v6.ownsRow (w.heap.size + 1) 75 6 (.slice (some ⟨w.heap.size + 1, 0, none⟩) n n) n (entsC (firstN k n es))) := own_below PO.out n56
      have B6 : Below (w.heap.size + 1) v2 v6 := hb.trans (n56.mono (by omega))
      have hfl : (entsC (firstN k n es)).length = n * 6 := by
        have := HN.out
        subst this
        rw [entsC_len, firstN_len _ _ (by omega)]
      clear g0 g1 g2 g3 g4 g5 r0 r1 r2 n5 n6 n56 hb A3
      have q0 := own_cell SO.out (k * 6) _ (List.getElem?_eq_getElem (by omega))
      have q1 := own_cell SO.out (k * 6 + 1) _ (List.getElem?_eq_getElem (by omega))
      have q2 := own_cell SO.out (k * 6 + 2) _ (List.getElem?_eq_getElem (by omega))
      have q3 := own_cell SO.out (k * 6 + 3) _ (List.getElem?_eq_getElem (by omega))
      have q4 := own_cell SO.out (k * 6 + 4) _ (List.getElem?_eq_getElem (by omega))
      have q5 := own_cell SO.out (k * 6 + 5) _ (List.getElem?_eq_getElem (by omega))
      generalize (entsC (firstN k n es))[k * 6]'_ = y0 at q0
      generalize (entsC (firstN k n es))[k * 6 + 1]'_ = y1 at q1
      generalize (entsC (firstN k n es))[k * 6 + 2]'_ = y2 at q2
      generalize (entsC (firstN k n es))[k * 6 + 3]'_ = y3 at q3
      generalize (entsC (firstN k n es))[k * 6 + 4]'_ = y4 at q4
      generalize (entsC (firstN k n es))[k * 6 + 5]'_ = y5 at q5
      have s0 := own_free SO.out (k * 6)
      have s1 := own_free SO.out (k * 6 + 1)
      have s2 := own_free SO.out (k * 6 + 2)
      have s3 := own_free SO.out (k * 6 + 3)
      have s4 := own_free SO.out (k * 6 + 4)
      have s5 := own_free SO.out (k * 6 + 5)
      go_wp2_with fail
      go_roundw
      case rel =>
        refine ⟨k + 1, by omega, by go_num, ?_, ?_⟩
        · have := HN.out
          subst this
          rw [firstN_next k es _ HXk.out, entsC_set _ _ _ (by rw [firstN_len _ _ (by omega)]; exact hlt)]
          exact own_store (own_store (own_store (own_store (own_store (own_store SO.out _ _) _ _) _ _) _ _) _ _) _ _
        · have hg1 : w.heap.size + 1 ≤ w.heap.size + 1 := Nat.le_refl _
          exact (((((B6.setCell (p := ⟨w.heap.size + 1, _, none⟩) hg1 _).setCell (p := ⟨w.heap.size + 1, _, none⟩) hg1 _).setCell (p := ⟨w.heap.size + 1, _, none⟩) hg1 _).setCell (p := ⟨w.heap.size + 1, _, none⟩) hg1 _).setCell (p := ⟨w.heap.size + 1, _, none⟩) hg1 _).setCell (p := ⟨w.heap.size + 1, _, none⟩) hg1 _
      case measure => simp [intOf]; omega
    · have hkn : k = n := by omega
      subst hkn
      obtain ⟨⟨d0, d1, d2⟩, f0, f1, f2⟩ := three_cells P1.out
      go_wp2_with fail
      go_region
      all_goals
        go_wp2_with fail
        refine bodyPost_ret (v := .agg #[.int .i64 sets, .int .i64 ways, .slice (some ⟨w.heap.size + 1, 0, none⟩) k k]) (by simp [results, Try.results143, go_sem, d0, d1, d2]) rfl ⟨⟨_, rfl, w.heap.size + 1, k, by simp only; rw [HN.out], ?_⟩, (bel3 A3 (Nat.le_refl _) _ _ _).drew⟩
        simp only
        rw [HN.out]
        have hO := PO.out
        have hq := HN.out
        subst hq
        rw [firstN_all] at hO
        exact own_low (own_drew (own_gb hO (gb3 wr w.heap.size _ _ _) (by omega))) (by omega)

end Go.Proofs.Ythekickjjaleaab

/- Bits of unsigned numbers as plain mathematics: single bits, several bits, replacing the lowest bits. -/
namespace Go.Proofs.Ythekickjjaleaab
set_option linter.unusedVariables false

theorem nat_and_pow (a k : Nat) : (a &&& 2 ^ k != 0) = (a / 2 ^ k % 2 == 1) := by
  have e : (a / 2 ^ k % 2 == 1) = a.testBit k := by rw [Nat.testBit_eq_decide_div_mod_eq]; rfl
  rw [e]
  cases h : a.testBit k
  · have : a &&& 2 ^ k = 0 := by
      apply Nat.eq_of_testBit_eq
      intro i
      rw [Nat.testBit_and, Nat.testBit_two_pow, Nat.zero_testBit]
      by_cases hi : k = i
      · subst hi; simp [h]
      · simp [hi]
    simp [this]
  · have : a &&& 2 ^ k ≠ 0 := by
      intro h0
      have := congrArg (fun n => n.testBit k) h0
      simp [Nat.testBit_and, h] at this
    simpa using this

theorem nat_and_or (a m n : Nat) : (a &&& (m ||| n) != 0) = ((a &&& m != 0) || (a &&& n != 0)) := by
  rw [Nat.and_or_distrib_left]
  cases h : (a &&& m != 0) <;> cases h' : (a &&& n != 0) <;> simp_all [Nat.or_eq_zero_iff]

/-- Some bit of x is among those of m. -/
def anyB (x m : Int) : Bool := bits .and .u64 x m != 0

theorem anyB_nat (a m : Nat) (ha : a < 18446744073709551616) (hm : m < 18446744073709551616) : anyB a m = (a &&& m != 0) := by
  rw [anyB, u64_and_nat a m ha hm]
  cases h : (a &&& m != 0)
  · simp at h; simp [h]
  · simp at h; simp; omega

theorem anyB_bit (k : Nat) (x p : Int) (hp : p = 2 ^ k) (hk : p < 18446744073709551616) (h0 : 0 ≤ x) (h1 : x ≤ 18446744073709551615) : anyB x p = bitB x p := by
  obtain ⟨a, rfl⟩ := Int.eq_ofNat_of_zero_le h0
  have e : p = ((2 ^ k : Nat) : Int) := by rw [hp]; push_cast; rfl
  rw [e] at hk ⊢
  rw [anyB_nat a (2 ^ k) (by omega) (by omega), nat_and_pow, bitB]
  rw [show ((a : Int) / ((2 ^ k : Nat) : Int) % 2) = ((a / 2 ^ k % 2 : Nat) : Int) by omega]
  generalize a / 2 ^ k % 2 = t
  rw [Bool.eq_iff_iff]
  simp only [beq_iff_eq]
  omega

theorem anyB_rwx (x : Int) (h0 : 0 ≤ x) (h1 : x ≤ 18446744073709551615) : anyB x 14 = (bitB x 2 || bitB x 4 || bitB x 8) := by
  rw [← anyB_bit 1 x 2 rfl (by omega) h0 h1, ← anyB_bit 2 x 4 rfl (by omega) h0 h1, ← anyB_bit 3 x 8 rfl (by omega) h0 h1]
  obtain ⟨a, rfl⟩ := Int.eq_ofNat_of_zero_le h0
  rw [show (14 : Int) = ((14 : Nat) : Int) from rfl, show (2 : Int) = ((2 : Nat) : Int) from rfl, show (4 : Int) = ((4 : Nat) : Int) from rfl, show (8 : Int) = ((8 : Nat) : Int) from rfl]
  rw [anyB_nat a 14 (by omega) (by omega), anyB_nat a 2 (by omega) (by omega), anyB_nat a 4 (by omega) (by omega), anyB_nat a 8 (by omega) (by omega)]
  rw [← nat_and_or, ← nat_and_or]
  rfl

theorem anyB_uad (x : Int) (h0 : 0 ≤ x) (h1 : x ≤ 18446744073709551615) : anyB x 208 = (bitB x 16 || bitB x 64 || bitB x 128) := by
  rw [← anyB_bit 4 x 16 rfl (by omega) h0 h1, ← anyB_bit 6 x 64 rfl (by omega) h0 h1, ← anyB_bit 7 x 128 rfl (by omega) h0 h1]
  obtain ⟨a, rfl⟩ := Int.eq_ofNat_of_zero_le h0
  rw [show (208 : Int) = ((208 : Nat) : Int) from rfl, show (16 : Int) = ((16 : Nat) : Int) from rfl, show (64 : Int) = ((64 : Nat) : Int) from rfl, show (128 : Int) = ((128 : Nat) : Int) from rfl]
  rw [anyB_nat a 208 (by omega) (by omega), anyB_nat a 16 (by omega) (by omega), anyB_nat a 64 (by omega) (by omega), anyB_nat a 128 (by omega) (by omega)]
  rw [← nat_and_or, ← nat_and_or]
  rfl

/-- The lowest k bits cleared. -/
theorem clear_u64 (k : Nat) (x m P : Int) (hP : P = 2 ^ k) (hm : m = P - 1) (hk : m < 18446744073709551616) (h0 : 0 ≤ x) (h1 : x ≤ 18446744073709551615) : bits .andNot .u64 x m = x / P * P := by
  obtain ⟨a, rfl⟩ := Int.eq_ofNat_of_zero_le h0
  have hp : 1 ≤ (2 ^ k : Nat) := Nat.one_le_two_pow
  have eP : P = ((2 ^ k : Nat) : Int) := by rw [hP]; push_cast; rfl
  have e : m = ((2 ^ k - 1 : Nat) : Int) := by rw [hm, eP]; omega
  rw [e] at hk ⊢
  rw [eP, u64_andNot_nat a (2 ^ k - 1) (by omega) (by omega)]
  rw [show ((a : Int) / ((2 ^ k : Nat) : Int) * ((2 ^ k : Nat) : Int)) = ((a / 2 ^ k * 2 ^ k : Nat) : Int) by push_cast; rfl]
  congr 1
  apply Nat.eq_of_testBit_eq
  intro i
  have hk64 : k ≤ 64 := by
    rcases Nat.lt_or_ge 64 k with h | h
    · have : 2 ^ 65 ≤ 2 ^ k := Nat.pow_le_pow_right (by omega) h
      omega
    · exact h
  rw [Nat.testBit_and, Nat.testBit_mul_two_pow, Nat.testBit_div_two_pow]
  by_cases hi : k ≤ i
  · by_cases hi' : i < 64
    · have : (18446744073709551615 - (2 ^ k - 1)).testBit i = true := by
        rw [show 18446744073709551615 - (2 ^ k - 1) = 2 ^ 64 - (2 ^ k - 1 + 1) by omega, Nat.testBit_two_pow_sub_succ (by omega), Nat.testBit_two_pow_sub_one]
        simp
        omega
      rw [this]
      simp [hi, show i - k + k = i by omega]
    · have : a.testBit i = false := Nat.testBit_lt_two_pow (Nat.lt_of_lt_of_le (by omega : a < 2 ^ 64) (Nat.pow_le_pow_right (by omega) (by omega)))
      simp [this, show i - k + k = i by omega]
  · have : (18446744073709551615 - (2 ^ k - 1)).testBit i = false := by
      rw [show 18446744073709551615 - (2 ^ k - 1) = 2 ^ 64 - (2 ^ k - 1 + 1) by omega, Nat.testBit_two_pow_sub_succ (by omega), Nat.testBit_two_pow_sub_one]
      simp
      omega
    simp [this, hi]

/-- The lowest bits of one number, the upper ones of another. -/
theorem splice_u64 (k : Nat) (x y m P : Int) (hP : P = 2 ^ k) (hm : m = P - 1) (hk : m < 18446744073709551616) (h0 : 0 ≤ x) (h1 : x ≤ 18446744073709551615) (g0 : 0 ≤ y) (g1 : y ≤ 18446744073709551615) :
    bits .or .u64 (bits .andNot .u64 x m) (bits .and .u64 y m) = x / P * P + y % P := by
  have hp : 1 ≤ P := by rw [hP]; exact Int.pow_pos (by omega : (0 : Int) < 2)
  rw [clear_u64 k x m P hP hm hk h0 h1, mask_u64 k y m (by rw [hm, hP]) hk g0 g1, ← hP]
  have a1 : 0 ≤ y % P := Int.emod_nonneg _ (by omega)
  have a2 : y % P < P := Int.emod_lt_of_pos _ (by omega)
  have a3 : 0 ≤ x / P := Int.ediv_nonneg h0 (by omega)
  have a4 : x / P * P ≤ x := Int.ediv_mul_le _ (by omega)
  have a5 : 0 ≤ x / P * P := Int.mul_nonneg a3 (by omega)
  have hc : bits .or .u64 (x / P * P) (y % P) = bits .or .u64 (y % P) (x / P * P) := by
    rw [u64_or _ _ a5 (by omega) a1 (by omega), u64_or _ _ a1 (by omega) a5 (by omega), Nat.or_comm]
  rw [hc, or_shift k P (y % P) (x / P) hP a1 a2 a3 (by omega) (by omega)]
  omega

end Go.Proofs.Ythekickjjaleaab

/- The program's chapter 2: lowBits, canonical, index, the entry's methods, Canonical, PteKind, Granted, PhysOf. -/
namespace Go.Proofs.Ythekickjjaleaab
open Go.RowKit
set_option linter.unusedVariables false

theorem lowBits_at (n m : Int) (w : World) (h : (n = 0 ∧ m = 0) ∨ (n = 3 ∧ m = 7) ∨ (n = 6 ∧ m = 63) ∨ (n = 9 ∧ m = 511) ∨ (n = 12 ∧ m = 4095) ∨ (n = 44 ∧ m = 17592186044415) ∨ (n = 50 ∧ m = 1125899906842623) ∨ (n = 15 ∧ m = 32767) ∨ (n = 16 ∧ m = 65535)) :
    Calls Try.prog 116 #[.int .i64 n] w fun e w' => e = .returned (.int .u64 m) ∧ w' = w := by
  rcases h with ⟨rfl, rfl⟩ | ⟨rfl, rfl⟩ | ⟨rfl, rfl⟩ | ⟨rfl, rfl⟩ | ⟨rfl, rfl⟩ | ⟨rfl, rfl⟩ | ⟨rfl, rfl⟩ | ⟨rfl, rfl⟩ | ⟨rfl, rfl⟩
  all_goals
    go_enter Try.func116, Try.ntmps116
    go_wp2_with fail
    go_ret
    exact ⟨rfl, rfl⟩

theorem hasAny_at (x m : Int) (w : World) :
    Calls Try.prog 118 #[.int .u64 x, .int .u64 m] w fun e w' => e = .returned (.bool (anyB x m)) ∧ w' = w := by
  go_enter Try.func118, Try.ntmps118
  go_wp2_with fail
  go_ret
  exact ⟨rfl, rfl⟩

theorem canonical_at (x : Int) (w : World) (h0 : 0 ≤ x) (h1 : x ≤ 18446744073709551615) :
    Calls Try.prog 73 #[.int .u64 x] w fun e w' => e = .returned (.bool (canonM x)) ∧ w' = w := by
  have hm : x / 16384 % 1125899906842624 = x / 16384 := Int.emod_eq_of_lt (Int.ediv_nonneg h0 (by omega)) (by omega)
  rw [canonM, hm]
  clear hm
  by_cases ht : x / 16384 = 0
  · have ht' : (x / 16384 == 0) = true := by simp [ht]
    clear ht
    go_enter Try.func73, Try.ntmps73
    go_wp2_with fail
    go_ret
    exact ⟨by simp [ht'], rfl⟩
  · have ht' : (x / 16384 == 0) = false := by simpa using ht
    clear ht
    go_enter Try.func73, Try.ntmps73
    go_wp2_with (go_at_call 116; refine (lowBits_at 50 1125899906842623 _ (by omega)).mono ?_; rintro e w' ⟨rfl, rfl⟩)
    go_ret
    exact ⟨by simp [ht'], rfl⟩

theorem implCanonical_at (x : Int) (w : World) (h0 : 0 ≤ x) (h1 : x ≤ 18446744073709551615) :
    Calls Try.prog 25 #[.int .u64 x] w fun e w' => e = .returned (.bool (canonM x)) ∧ w' = w := by
  go_enter Try.func25, Try.ntmps25
  go_wp2_with fail
  refine (canonical_at x w h0 h1).mono ?_
  rintro e w' ⟨rfl, rfl⟩
  go_wp2_with fail
  go_ret
  exact ⟨rfl, rfl⟩

theorem ppn_at (x : Int) (w : World) (h0 : 0 ≤ x) (h1 : x ≤ 18446744073709551615) :
    Calls Try.prog 121 #[.int .u64 x] w fun e w' => e = .returned (.int .u64 (ppnM x)) ∧ w' = w := by
  have H : Hid (bits .and .u64 (x / 1024) 17592186044415 = ppnM x) := mask_u64 44 (x / 1024) 17592186044415 rfl (by omega) (by omega) (by omega)
  go_enter Try.func121, Try.ntmps121
  go_wp2_with (go_at_call 116; refine (lowBits_at 44 17592186044415 _ (by omega)).mono ?_; rintro e w' ⟨rfl, rfl⟩)
  go_ret
  exact ⟨ret_u64 H.out, rfl⟩

theorem beyondPpn_at (x : Int) (w : World) (h0 : 0 ≤ x) (h1 : x ≤ 18446744073709551615) :
    Calls Try.prog 151 #[.int .u64 x] w fun e w' => e = .returned (.int .u64 (x / 18014398509481984 % 1024)) ∧ w' = w := by
  have H : Hid (x / 18014398509481984 = x / 18014398509481984 % 1024) := show _ = _ by omega
  go_enter Try.func151, Try.ntmps151
  go_wp2_with fail
  go_ret
  exact ⟨ret_u64 H.out, rfl⟩

def soundM (x : Int) : Bool := bitB x 1 && (x / 18014398509481984 % 1024 == 0) && !(bitB x 4 && !bitB x 2)

theorem sound_at (x : Int) (w : World) (h0 : 0 ≤ x) (h1 : x ≤ 18446744073709551615) :
    Calls Try.prog 117 #[.int .u64 x] w fun e w' => e = .returned (.bool (soundM x)) ∧ w' = w := by
  have HV : Hid (anyB x 1 = bitB x 1) := anyB_bit 0 x 1 rfl (by omega) h0 h1
  have HR : Hid (anyB x 2 = bitB x 2) := anyB_bit 1 x 2 rfl (by omega) h0 h1
  have HW : Hid (anyB x 4 = bitB x 4) := anyB_bit 2 x 4 rfl (by omega) h0 h1
  cases hw : bitB x 4 <;> cases hr : bitB x 2 <;> cases hv : bitB x 1
  all_goals
    go_enter Try.func117, Try.ntmps117
    go_wp2_with (first
      | (go_at_call 118; refine (hasAny_at x _ _).mono ?_; rintro e w' ⟨rfl, rfl⟩; first | rw [HW.out, hw] | rw [HR.out, hr] | rw [HV.out, hv])
      | (go_at_call 151; refine (beyondPpn_at x _ h0 h1).mono ?_; rintro e w' ⟨rfl, rfl⟩))
    all_goals
      go_ret
      exact ⟨ret_bool (by simp [soundM, hw, hr, hv]; try assumption), rfl⟩

theorem aligned_at (x level : Int) (w : World) (h0 : 0 ≤ x) (h1 : x ≤ 18446744073709551615) (hl : level = 0 ∨ level = 1 ∨ level = 2) :
    Calls Try.prog 119 #[.int .u64 x, .int .i64 level] w fun e w' => e = .returned (.bool (ppnM x % pow3 level == 0)) ∧ w' = w := by
  have hpp : 0 ≤ ppnM x ∧ ppnM x < 17592186044416 := ⟨Int.emod_nonneg _ (by omega), Int.emod_lt_of_pos _ (by omega)⟩
  have HP : ∀ w, Hid (Calls Try.prog 121 #[.int .u64 x] w fun e w' => e = .returned (.int .u64 (ppnM x)) ∧ w' = w) := fun w => ppn_at x w h0 h1
  generalize ppnM x = p at *
  rcases hl with rfl | rfl | rfl
  · have H : Hid ((bits .and .u64 p 0 == 0) = (p % pow3 0 == 0)) := by
      show _ = _
      rw [mask_u64 0 p 0 rfl (by omega) hpp.1 (by omega)]; rfl
    go_enter Try.func119, Try.ntmps119
    go_wp2_with (first
      | (go_at_call 121; refine ((HP _).out).mono ?_; rintro e w' ⟨rfl, rfl⟩)
      | (go_at_call 116; refine (lowBits_at 0 0 _ (by omega)).mono ?_; rintro e w' ⟨rfl, rfl⟩))
    go_ret
    exact ⟨ret_bool H.out, rfl⟩
  · have H : Hid ((bits .and .u64 p 7 == 0) = (p % pow3 1 == 0)) := by
      show _ = _
      rw [mask_u64 3 p 7 rfl (by omega) hpp.1 (by omega)]; rfl
    go_enter Try.func119, Try.ntmps119
    go_wp2_with (first
      | (go_at_call 121; refine ((HP _).out).mono ?_; rintro e w' ⟨rfl, rfl⟩)
      | (go_at_call 116; refine (lowBits_at 3 7 _ (by omega)).mono ?_; rintro e w' ⟨rfl, rfl⟩))
    go_ret
    exact ⟨ret_bool H.out, rfl⟩
  · have H : Hid ((bits .and .u64 p 63 == 0) = (p % pow3 2 == 0)) := by
      show _ = _
      rw [mask_u64 6 p 63 rfl (by omega) hpp.1 (by omega)]; rfl
    go_enter Try.func119, Try.ntmps119
    go_wp2_with (first
      | (go_at_call 121; refine ((HP _).out).mono ?_; rintro e w' ⟨rfl, rfl⟩)
      | (go_at_call 116; refine (lowBits_at 6 63 _ (by omega)).mono ?_; rintro e w' ⟨rfl, rfl⟩))
    go_ret
    exact ⟨ret_bool H.out, rfl⟩

theorem knownLevel_at (l : Int) (w : World) :
    Calls Try.prog 80 #[.int .i64 l] w fun e w' => e = .returned (.bool (decide (0 ≤ l ∧ l ≤ 2))) ∧ w' = w := by
  by_cases h : 0 ≤ l
  · go_enter Try.func80, Try.ntmps80
    go_wp2_with fail
    go_ret
    exact ⟨ret_bool (by simp [h]), rfl⟩
  · go_enter Try.func80, Try.ntmps80
    go_wp2_with fail
    go_ret
    exact ⟨ret_bool (by simp; omega), rfl⟩

set_option maxHeartbeats 800000 in
theorem kind_at (x level : Int) (w : World) (h0 : 0 ≤ x) (h1 : x ≤ 18446744073709551615) :
    Calls Try.prog 76 #[.int .u64 x, .int .i64 level] w fun e w' => e = .returned (.int .i64 (kindM x level)) ∧ w' = w := by
  by_cases hlev : 0 ≤ level ∧ level ≤ 2
  · have hk : decide (0 ≤ level ∧ level ≤ 2) = true := by simpa using hlev
    have HK : Hid (decide (0 ≤ level ∧ level ≤ 2) = true) := hk
    have hl : level = 0 ∨ level = 1 ∨ level = 2 := by omega
    clear hk hlev
    have HR : Hid (anyB x 14 = (bitB x 2 || bitB x 4 || bitB x 8)) := anyB_rwx x h0 h1
    have HU : Hid (anyB x 208 = (bitB x 16 || bitB x 64 || bitB x 128)) := anyB_uad x h0 h1
    cases hs : soundM x
    · have HE : Hid (kindM x level = 0) := by
        show _ = _
        simp only [kindM]
        rw [if_pos]
        simp only [soundM] at hs
        cases hv : bitB x 1
        · simp
        · rw [hv] at hs
          by_cases hb : 0 < x / 18014398509481984 % 1024
          · simp [hb]
          · have hb' : x / 18014398509481984 % 1024 = 0 := by omega
            rw [hb'] at hs ⊢
            simp at hs
            simp [hs]
      go_enter Try.func76, Try.ntmps76
      go_wp2_with (first
        | (go_at_call 80; refine (knownLevel_at level _).mono ?_; rintro e w' ⟨rfl, rfl⟩; rw [HK.out])
        | (go_at_call 117; refine (sound_at x _ h0 h1).mono ?_; rintro e w' ⟨rfl, rfl⟩; rw [hs]))
      go_ret
      exact ⟨ret_i64 HE.out.symm, rfl⟩
    · have hn : ¬ (level < 0 ∨ 2 < level ∨ bitB x 1 = false ∨ 0 < x / 18014398509481984 % 1024 ∨ (bitB x 4 = true ∧ bitB x 2 = false)) := by
        simp only [soundM, Bool.and_eq_true, beq_iff_eq, Bool.not_eq_true', Bool.and_eq_false_iff, Bool.not_eq_false'] at hs
        obtain ⟨⟨a1, a2⟩, a3⟩ := hs
        rw [a1, a2]
        rcases a3 with a3 | a3
        · simp [a3]; omega
        · simp [a3]; omega
      have HE : Hid (kindM x level = if bitB x 2 = false ∧ bitB x 4 = false ∧ bitB x 8 = false then (if level = 0 ∨ bitB x 16 = true ∨ bitB x 64 = true ∨ bitB x 128 = true then 0 else 1) else if 0 < ppnM x % pow3 level then 0 else 2) := by
        show _ = _
        rw [kindM, if_neg hn]
      clear hn
      cases hr : (bitB x 2 || bitB x 4 || bitB x 8)
      · simp only [Bool.or_eq_false_iff] at hr
        have HE2 : Hid (kindM x level = if level = 0 ∨ bitB x 16 = true ∨ bitB x 64 = true ∨ bitB x 128 = true then 0 else 1) := by
          show _ = _
          rw [HE.out, if_pos ⟨hr.1.1, hr.1.2, hr.2⟩]
        clear HE
        have HR' : Hid (anyB x 14 = false) := by show _ = _; rw [HR.out, hr.1.1, hr.1.2, hr.2]; rfl
        clear HR hr
        by_cases hz : level = 0
        · subst hz
          go_enter Try.func76, Try.ntmps76
          go_wp2_with (first
            | (go_at_call 80; refine (knownLevel_at 0 _).mono ?_; rintro e w' ⟨rfl, rfl⟩; rw [HK.out])
            | (go_at_call 117; refine (sound_at x _ h0 h1).mono ?_; rintro e w' ⟨rfl, rfl⟩; rw [hs])
            | (go_at_call 118; refine (hasAny_at x _ _).mono ?_; rintro e w' ⟨rfl, rfl⟩; rw [HR'.out]))
          go_ret
          exact ⟨ret_i64 (by rw [HE2.out]; simp), rfl⟩
        · have hz' : (level == 0) = false := by simpa using hz
          cases hu : (bitB x 16 || bitB x 64 || bitB x 128)
          · have HE3 : Hid (kindM x level = 1) := by
              show _ = _
              simp only [Bool.or_eq_false_iff] at hu
              rw [HE2.out, hu.1.1, hu.1.2, hu.2]
              simp [hz]
            go_enter Try.func76, Try.ntmps76
            go_wp2_with (first
              | (go_at_call 80; refine (knownLevel_at level _).mono ?_; rintro e w' ⟨rfl, rfl⟩; rw [HK.out])
              | (go_at_call 117; refine (sound_at x _ h0 h1).mono ?_; rintro e w' ⟨rfl, rfl⟩; rw [hs])
              | (go_at_call 118; refine (hasAny_at x _ _).mono ?_; rintro e w' ⟨rfl, rfl⟩; first | rw [HR'.out] | rw [HU.out, hu]))
            go_ret
            exact ⟨ret_i64 HE3.out.symm, rfl⟩
          · have HE3 : Hid (kindM x level = 0) := by
              show _ = _
              simp only [Bool.or_eq_true] at hu
              rw [HE2.out, if_pos]
              rcases hu with (hu | hu) | hu <;> simp [hu]
            go_enter Try.func76, Try.ntmps76
            go_wp2_with (first
              | (go_at_call 80; refine (knownLevel_at level _).mono ?_; rintro e w' ⟨rfl, rfl⟩; rw [HK.out])
              | (go_at_call 117; refine (sound_at x _ h0 h1).mono ?_; rintro e w' ⟨rfl, rfl⟩; rw [hs])
              | (go_at_call 118; refine (hasAny_at x _ _).mono ?_; rintro e w' ⟨rfl, rfl⟩; first | rw [HR'.out] | rw [HU.out, hu]))
            go_ret
            exact ⟨ret_i64 HE3.out.symm, rfl⟩
      · have HR' : Hid (anyB x 14 = true) := by show _ = _; rw [HR.out, hr]
        have HE2 : Hid (kindM x level = if 0 < ppnM x % pow3 level then 0 else 2) := by
          show _ = _
          rw [HE.out, if_neg]
          rintro ⟨q1, q2, q3⟩
          rw [q1, q2, q3] at hr
          cases hr
        clear HE HR hr
        have hnn : 0 ≤ ppnM x % pow3 level := by
          apply Int.emod_nonneg
          rcases hl with rfl | rfl | rfl <;> decide
        cases ha : (ppnM x % pow3 level == 0)
        · have HE3 : Hid (kindM x level = 0) := by
            show _ = _
            have : ppnM x % pow3 level ≠ 0 := by simpa using ha
            rw [HE2.out, if_pos (by omega)]
          clear hnn
          go_enter Try.func76, Try.ntmps76
          go_wp2_with (first
            | (go_at_call 80; refine (knownLevel_at level _).mono ?_; rintro e w' ⟨rfl, rfl⟩; rw [HK.out])
            | (go_at_call 117; refine (sound_at x _ h0 h1).mono ?_; rintro e w' ⟨rfl, rfl⟩; rw [hs])
            | (go_at_call 118; refine (hasAny_at x _ _).mono ?_; rintro e w' ⟨rfl, rfl⟩; rw [HR'.out])
            | (go_at_call 119; refine (aligned_at x level _ h0 h1 hl).mono ?_; rintro e w' ⟨rfl, rfl⟩; rw [ha]))
          go_ret
          exact ⟨ret_i64 HE3.out.symm, rfl⟩
        · have HE3 : Hid (kindM x level = 2) := by
            show _ = _
            have : ppnM x % pow3 level = 0 := by simpa using ha
            rw [HE2.out, if_neg (by omega)]
          clear hnn
          go_enter Try.func76, Try.ntmps76
          go_wp2_with (first
            | (go_at_call 80; refine (knownLevel_at level _).mono ?_; rintro e w' ⟨rfl, rfl⟩; rw [HK.out])
            | (go_at_call 117; refine (sound_at x _ h0 h1).mono ?_; rintro e w' ⟨rfl, rfl⟩; rw [hs])
            | (go_at_call 118; refine (hasAny_at x _ _).mono ?_; rintro e w' ⟨rfl, rfl⟩; rw [HR'.out])
            | (go_at_call 119; refine (aligned_at x level _ h0 h1 hl).mono ?_; rintro e w' ⟨rfl, rfl⟩; rw [ha]))
          go_ret
          exact ⟨ret_i64 HE3.out.symm, rfl⟩
  · have HK : Hid (decide (0 ≤ level ∧ level ≤ 2) = false) := by show _ = _; simpa using hlev
    have HE : Hid (kindM x level = 0) := by
      show _ = _
      rw [kindM, if_pos (by omega)]
    clear hlev
    go_enter Try.func76, Try.ntmps76
    go_wp2_with (go_at_call 80; refine (knownLevel_at level _).mono ?_; rintro e w' ⟨rfl, rfl⟩; rw [HK.out])
    go_ret
    exact ⟨ret_i64 HE.out.symm, rfl⟩

theorem implPteKind_at (x level : Int) (w : World) (h0 : 0 ≤ x) (h1 : x ≤ 18446744073709551615) :
    Calls Try.prog 27 #[.int .u64 x, .int .i64 level] w fun e w' => e = .returned (.int .i64 (kindM x level)) ∧ w' = w := by
  go_enter Try.func27, Try.ntmps27
  go_wp2_with fail
  refine (kind_at x level w h0 h1).mono ?_
  rintro e w' ⟨rfl, rfl⟩
  go_wp2_with fail
  go_ret
  exact ⟨rfl, rfl⟩

end Go.Proofs.Ythekickjjaleaab

/- The program's chapter 4: tags, address spaces, what a cache of leaves or of pointers may hold. -/
namespace Go.Proofs.Ythekickjjaleaab
open Go.RowKit
set_option linter.unusedVariables false

theorem tagMask_at (level : Int) (w : World) (hl : level = 0 ∨ level = 1 ∨ level = 2) :
    Calls Try.prog 153 #[.int .i64 level] w fun e w' => e = .returned (.int .u64 (pow9 level - 1)) ∧ w' = w := by
  rcases hl with rfl | rfl | rfl
  all_goals
    go_enter Try.func153, Try.ntmps153
    go_wp2_with (go_at_call 116; refine (lowBits_at 15 32767 _ (by omega)).mono ?_; rintro e w' ⟨rfl, rfl⟩)
    go_ret
    exact ⟨ret_u64 (by decide), rfl⟩

theorem tag_at (va level : Int) (w : World) (hv0 : 0 ≤ va) (hv1 : va ≤ 18446744073709551615) (hl : level = 0 ∨ level = 1 ∨ level = 2) :
    Calls Try.prog 154 #[.int .u64 va, .int .i64 level] w fun e w' => e = .returned (.int .u64 (tagM va level)) ∧ ∃ n, w' = w.drewN n := by
  rcases hl with rfl | rfl | rfl
  · have H : Hid (bits .and .u64 (va / 64) 511 = tagM va 0) := mask_u64 9 (va / 64) 511 rfl (by omega) (by omega) (by omega)
    go_enter Try.func154, Try.ntmps154
    go_wp2_with fail
    go_quiet ((go_at_call 153; exact Calls.quiet_of_same (tagMask_at 0 _ (by omega))))
    go_wp2_with fail
    go_ret
    exact ⟨ret_u64 H.out, nq, rfl⟩
  · have H : Hid (bits .and .u64 (va / 512) 63 = tagM va 1) := mask_u64 6 (va / 512) 63 rfl (by omega) (by omega) (by omega)
    go_enter Try.func154, Try.ntmps154
    go_wp2_with fail
    go_quiet ((go_at_call 153; exact Calls.quiet_of_same (tagMask_at 1 _ (by omega))))
    go_wp2_with fail
    go_ret
    exact ⟨ret_u64 H.out, nq, rfl⟩
  · have H : Hid (bits .and .u64 (va / 4096) 7 = tagM va 2) := mask_u64 3 (va / 4096) 7 rfl (by omega) (by omega) (by omega)
    go_enter Try.func154, Try.ntmps154
    go_wp2_with fail
    go_quiet ((go_at_call 153; exact Calls.quiet_of_same (tagMask_at 2 _ (by omega))))
    go_wp2_with fail
    go_ret
    exact ⟨ret_u64 H.out, nq, rfl⟩


theorem goodAtL_at (x level : Int) (w : World) (h0 : 0 ≤ x) (h1 : x ≤ 18446744073709551615) :
    Calls Try.prog 178 #[.int .u64 x, .int .i64 level] w fun e w' => e = .returned (.bool (kindM x level == 2)) ∧ w' = w := by
  go_enter Try.func178, Try.ntmps178
  go_wp2_with (go_at_call 76; refine (kind_at x level _ h0 h1).mono ?_; rintro e w' ⟨rfl, rfl⟩)
  go_ret
  exact ⟨ret_bool (by simp), rfl⟩

theorem goodAtP_at (x level : Int) (w : World) (h0 : 0 ≤ x) (h1 : x ≤ 18446744073709551615) :
    Calls Try.prog 176 #[.int .u64 x, .int .i64 level] w fun e w' => e = .returned (.bool (kindM x level == 1)) ∧ w' = w := by
  go_enter Try.func176, Try.ntmps176
  go_wp2_with (go_at_call 76; refine (kind_at x level _ h0 h1).mono ?_; rintro e w' ⟨rfl, rfl⟩)
  go_ret
  exact ⟨ret_bool (by simp), rfl⟩

theorem knownPick_at (k : Int) (w : World) :
    Calls Try.prog 104 #[.int .i64 k] w fun e w' => e = .returned (.bool (decide (0 ≤ k ∧ k ≤ 255))) ∧ w' = w := by
  by_cases h : 0 ≤ k
  · go_enter Try.func104, Try.ntmps104
    go_wp2_with fail
    go_ret
    exact ⟨ret_bool (by simp [h]), rfl⟩
  · go_enter Try.func104, Try.ntmps104
    go_wp2_with fail
    go_ret
    exact ⟨ret_bool (by simp; omega), rfl⟩

end Go.Proofs.Ythekickjjaleaab
