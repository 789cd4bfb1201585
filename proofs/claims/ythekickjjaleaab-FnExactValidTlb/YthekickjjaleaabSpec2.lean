/- The specification's chapter 2: l2Pow, l2Bits, l2Bit, Canonical, l2Ppn, PteKind, Granted, PhysOf. -/
import Derived.Test.YthekickjjaleaabMem
import Derived.Test.YthekickjjaleaabMath2
namespace Go.Proofs.Ythekickjjaleaab
open Go.RowKit
set_option linter.unusedVariables false

theorem pow_bd (k : Nat) (h : k ≤ 62) : 1 ≤ (2 : Int) ^ k ∧ (2 : Int) ^ k ≤ 4611686018427387904 := by
  have h1 : (2 : Nat) ^ k ≤ 2 ^ 62 := Nat.pow_le_pow_right (by omega) h
  have h2 : 1 ≤ (2 : Nat) ^ k := Nat.one_le_two_pow
  have e : (2 : Int) ^ k = ((2 ^ k : Nat) : Int) := by push_cast; rfl
  rw [e]
  omega

theorem ret_i64 {a b : Int} (h : a = b) : Ending.returned (.int .i64 a) = .returned (.int .i64 b) := by rw [h]
theorem ret_bool {a b : Bool} (h : a = b) : Ending.returned (.bool a) = .returned (.bool b) := by rw [h]

theorem l2Pow_any (k : Nat) : ∀ (n : Int) (w : World), n ≤ k → k ≤ 63 → n.toNat = k →
    Calls Try.prog 72 #[.int .i64 n] w fun e w' => e = .returned (.int .u64 (2 ^ k)) ∧ w' = w := by
  induction k with
  | zero =>
    intro n w h h' h''
    have hn : n ≤ 0 := by omega
    go_enter Try.func72, Try.ntmps72
    go_wp2_with fail
    go_ret
    exact ⟨rfl, rfl⟩
  | succ k ih =>
    intro n w h h' h''
    have hn : ¬ n ≤ 0 := by omega
    have hb := pow_bd k (by omega)
    have IH : Hid (∀ (n : Int) (w : World), n ≤ k → k ≤ 63 → n.toNat = k →
      Calls Try.prog 72 #[.int .i64 n] w fun e w' => e = .returned (.int .u64 (2 ^ k)) ∧ w' = w) := ih
    have HE : Hid ((2 : Int) ^ (k + 1) = 2 * 2 ^ k) := by show _ = _; rw [Int.pow_succ, Int.mul_comm]
    rw [HE.out]
    clear ih HE
    have H'' : Hid (n.toNat = k + 1) := h''
    clear h''
    generalize (2 : Int) ^ k = p at *
    go_enter Try.func72, Try.ntmps72
    go_wp2_with fail
    refine (IH.out (n - 1) w (by omega) (by omega) (by have := H''.out; omega)).mono ?_
    rintro e w' ⟨rfl, rfl⟩
    go_wp2_with fail
    go_ret
    exact ⟨rfl, rfl⟩

/-- 2 to the n, p being that number. -/
theorem l2Pow_at (n p : Int) (w : World) (hn : n ≤ 63) (hp : p = 2 ^ n.toNat) :
    Calls Try.prog 72 #[.int .i64 n] w fun e w' => e = .returned (.int .u64 p) ∧ w' = w := by
  rw [hp]
  exact l2Pow_any n.toNat n w (by omega) (by omega) rfl

set_option maxHeartbeats 400000 in
theorem l2Bits_at (x i j p q : Int) (w : World) (h0 : 0 ≤ x) (h1 : x ≤ 18446744073709551615) (hi : 0 ≤ i) (hi' : i ≤ 63) (hj : i ≤ j + 1) (hj' : j - i ≤ 62) (hp : p = 2 ^ i.toNat) (hq : q = 2 ^ (j - i + 1).toNat) :
    Calls Try.prog 71 #[.int .u64 x, .int .i64 i, .int .i64 j] w fun e w' => e = .returned (.int .u64 (x / p % q)) ∧ ∃ n, w' = w.drewN n := by
  have hp1 : 1 ≤ p := by rw [hp]; exact Int.pow_pos (by omega : (0 : Int) < 2)
  have hq1 : 1 ≤ q := by rw [hq]; exact Int.pow_pos (by omega : (0 : Int) < 2)
  have hxp : 0 ≤ x / p := Int.ediv_nonneg h0 (by omega)
  have HP : Hid (p = 2 ^ i.toNat) := hp
  have HQ : Hid (q = 2 ^ (j - i + 1).toNat) := hq
  clear hp hq
  go_enter Try.func71, Try.ntmps71
  go_wp2_with fail
  go_quiet (first
    | (go_at_call_of 72 (Value.int IntKind.i64 i); exact Calls.quiet_of_same (l2Pow_at i p _ (by omega) HP.out))
    | (go_at_call 72; exact Calls.quiet_of_same (l2Pow_at (j - i + 1) q _ (by omega) HQ.out)))
  go_wp2_with fail
  go_ret
  exact ⟨rfl, nq, rfl⟩

theorem l2Bit_at (x i p : Int) (w : World) (h0 : 0 ≤ x) (h1 : x ≤ 18446744073709551615) (hi : 0 ≤ i) (hi' : i ≤ 63) (hp : p = 2 ^ i.toNat) :
    Calls Try.prog 74 #[.int .u64 x, .int .i64 i] w fun e w' => e = .returned (.bool (bitB x p)) ∧ ∃ n, w' = w.drewN n := by
  have HP : Hid (p = 2 ^ i.toNat) := hp
  clear hp
  go_enter Try.func74, Try.ntmps74
  go_wp2_with fail
  refine (l2Bits_at x i i p 2 w h0 h1 hi hi' (by omega) (by omega) HP.out (by rw [show i - i + 1 = 1 by omega]; rfl)).mono ?_
  rintro e w' ⟨rfl, nq, rfl⟩
  go_wp2_with fail
  go_ret
  exact ⟨rfl, nq, rfl⟩

theorem l2Ppn_at (x : Int) (w : World) (h0 : 0 ≤ x) (h1 : x ≤ 18446744073709551615) :
    Calls Try.prog 75 #[.int .u64 x] w fun e w' => e = .returned (.int .u64 (ppnM x)) ∧ ∃ n, w' = w.drewN n := by
  go_enter Try.func75, Try.ntmps75
  go_wp2_with fail
  refine (l2Bits_at x 10 53 1024 17592186044416 w h0 h1 (by omega) (by omega) (by omega) (by omega) rfl rfl).mono ?_
  rintro e w' ⟨rfl, nq, rfl⟩
  go_wp2_with fail
  go_ret
  exact ⟨rfl, nq, rfl⟩

theorem specCanonical_at (x : Int) (w : World) (h0 : 0 ≤ x) (h1 : x ≤ 18446744073709551615) :
    Calls Try.prog 24 #[.int .u64 x] w fun e w' => e = .returned (.bool (canonM x)) ∧ ∃ n, w' = w.drewN n := by
  go_enter Try.func24, Try.ntmps24
  go_wp2_with fail
  refine (l2Bits_at x 14 63 16384 1125899906842624 w h0 h1 (by omega) (by omega) (by omega) (by omega) rfl rfl).mono ?_
  rintro e w' ⟨rfl, nq, rfl⟩
  by_cases ht : x / 16384 % 1125899906842624 = 0
  · have ht' : (x / 16384 % 1125899906842624 == 0) = true := by simp [ht]
    clear ht
    go_wp2_with fail
    go_ret
    exact ⟨by simp [canonM, ht'], nq, rfl⟩
  · have ht' : (x / 16384 % 1125899906842624 == 0) = false := by simpa using ht
    clear ht
    go_wp2_with (go_at_call 72; refine (l2Pow_at 50 1125899906842624 _ (by omega) rfl).mono ?_; rintro e w' ⟨rfl, rfl⟩)
    go_ret
    exact ⟨by simp [canonM, ht'], nq, rfl⟩

set_option maxHeartbeats 1600000 in
theorem specPteKind_at (pte level : Int) (w : World) (h0 : 0 ≤ pte) (h1 : pte ≤ 18446744073709551615) (hl : -9223372036854775808 ≤ level) (hl' : level ≤ 9223372036854775807) :
    Calls Try.prog 26 #[.int .u64 pte, .int .i64 level] w fun e w' => e = .returned (.int .i64 (kindM pte level)) ∧ ∃ n, w' = w.drewN n := by
  go_enter Try.func26, Try.ntmps26
  go_wp2_with fail
  refine (l2Bit_at pte 1 2 w h0 h1 (by omega) (by omega) rfl).mono ?_
  rintro e w' ⟨rfl, n1, rfl⟩
  go_wp2_with fail
  refine (l2Bit_at pte 2 4 _ h0 h1 (by omega) (by omega) rfl).mono ?_
  rintro e w' ⟨rfl, n2, rfl⟩
  go_wp2_with fail
  refine (l2Bit_at pte 3 8 _ h0 h1 (by omega) (by omega) rfl).mono ?_
  rintro e w' ⟨rfl, n3, rfl⟩
  go_wp2_with fail
  refine (l2Bit_at pte 4 16 _ h0 h1 (by omega) (by omega) rfl).mono ?_
  rintro e w' ⟨rfl, n4, rfl⟩
  go_wp2_with fail
  refine (l2Bit_at pte 6 64 _ h0 h1 (by omega) (by omega) rfl).mono ?_
  rintro e w' ⟨rfl, n5, rfl⟩
  go_wp2_with fail
  refine (l2Bit_at pte 7 128 _ h0 h1 (by omega) (by omega) rfl).mono ?_
  rintro e w' ⟨rfl, n6, rfl⟩
  by_cases hlev : 0 ≤ level ∧ level ≤ 2
  · obtain ⟨hl0, hl2⟩ := hlev
    cases hV : bitB pte 1
    · go_wp2_with (first
        | (go_at_call 74; refine (l2Bit_at pte 0 1 _ h0 h1 (by omega) (by omega) rfl).mono ?_; rintro e w' ⟨rfl, n7, rfl⟩; rw [hV]))
      go_ret
      exact ⟨ret_i64 (by simp [kindM, hV]), _, rfl⟩
    · by_cases hres : 0 < pte / 18014398509481984 % 1024
      · go_wp2_with (first
          | (go_at_call 74; refine (l2Bit_at pte 0 1 _ h0 h1 (by omega) (by omega) rfl).mono ?_; rintro e w' ⟨rfl, n7, rfl⟩; rw [hV])
          | (go_at_call 71; refine (l2Bits_at pte 54 63 18014398509481984 1024 _ h0 h1 (by omega) (by omega) (by omega) (by omega) rfl rfl).mono ?_; rintro e w' ⟨rfl, n8, rfl⟩))
        go_ret
        exact ⟨ret_i64 (by simp [kindM, hres]), _, rfl⟩
      · have hres' : decide (0 < pte / 18014398509481984 % 1024) = false := by simpa using hres
        cases hr : bitB pte 2 <;> cases hw : bitB pte 4
        · cases hx : bitB pte 8
          · cases hu : bitB pte 16 <;> cases ha : bitB pte 64 <;> cases hd : bitB pte 128
            all_goals
              rcases (show level = 0 ∨ level = 1 ∨ level = 2 by omega) with rfl | rfl | rfl
              all_goals
                go_wp2_with (first
                  | (go_at_call 74; refine (l2Bit_at pte 0 1 _ h0 h1 (by omega) (by omega) rfl).mono ?_; rintro e w' ⟨rfl, n7, rfl⟩; rw [hV])
                  | (go_at_call 71; refine (l2Bits_at pte 54 63 18014398509481984 1024 _ h0 h1 (by omega) (by omega) (by omega) (by omega) rfl rfl).mono ?_; rintro e w' ⟨rfl, n8, rfl⟩))
                go_ret
                exact ⟨ret_i64 (by simp [kindM, hV, hr, hw, hx, hu, ha, hd, hres]), _, rfl⟩
          · -- only X: a leaf
            obtain ⟨t, ht⟩ : ∃ t, ppnM pte = t := ⟨_, rfl⟩
            have hpp : 0 ≤ t := by rw [← ht]; exact Int.emod_nonneg _ (by omega)
            have HPP : Hid (ppnM pte = t) := ht
            clear ht
            rcases (show level = 0 ∨ level = 1 ∨ level = 2 by omega) with rfl | rfl | rfl
            · go_wp2_with (first
                    | (go_at_call 74; refine (l2Bit_at pte 0 1 _ h0 h1 (by omega) (by omega) rfl).mono ?_; rintro e w' ⟨rfl, n7, rfl⟩; rw [hV])
                    | (go_at_call 71; refine (l2Bits_at pte 54 63 18014398509481984 1024 _ h0 h1 (by omega) (by omega) (by omega) (by omega) rfl rfl).mono ?_; rintro e w' ⟨rfl, n8, rfl⟩)
                    | (go_at_call 75; refine (l2Ppn_at pte _ h0 h1).mono ?_; rintro e w' ⟨rfl, n9, rfl⟩; rw [HPP.out])
                    | (go_at_call 72; refine (l2Pow_at _ 1 _ (by omega) rfl).mono ?_; rintro e w' ⟨rfl, rfl⟩))
              go_ret
              exact ⟨ret_i64 (by simp [kindM, hV, hr, hw, hx, hres, pow3, Int.emod_one]), _, rfl⟩
            · by_cases hm : 0 < t % 8
              · go_wp2_with (first
                    | (go_at_call 74; refine (l2Bit_at pte 0 1 _ h0 h1 (by omega) (by omega) rfl).mono ?_; rintro e w' ⟨rfl, n7, rfl⟩; rw [hV])
                    | (go_at_call 71; refine (l2Bits_at pte 54 63 18014398509481984 1024 _ h0 h1 (by omega) (by omega) (by omega) (by omega) rfl rfl).mono ?_; rintro e w' ⟨rfl, n8, rfl⟩)
                    | (go_at_call 75; refine (l2Ppn_at pte _ h0 h1).mono ?_; rintro e w' ⟨rfl, n9, rfl⟩; rw [HPP.out])
                    | (go_at_call 72; refine (l2Pow_at _ 8 _ (by omega) rfl).mono ?_; rintro e w' ⟨rfl, rfl⟩))
                go_ret
                exact ⟨ret_i64 (by simp [kindM, hV, hr, hw, hx, show ¬ 0 < pte / 18014398509481984 % 1024 by omega, pow3, HPP.out, hm]), _, rfl⟩
              · go_wp2_with (first
                    | (go_at_call 74; refine (l2Bit_at pte 0 1 _ h0 h1 (by omega) (by omega) rfl).mono ?_; rintro e w' ⟨rfl, n7, rfl⟩; rw [hV])
                    | (go_at_call 71; refine (l2Bits_at pte 54 63 18014398509481984 1024 _ h0 h1 (by omega) (by omega) (by omega) (by omega) rfl rfl).mono ?_; rintro e w' ⟨rfl, n8, rfl⟩)
                    | (go_at_call 75; refine (l2Ppn_at pte _ h0 h1).mono ?_; rintro e w' ⟨rfl, n9, rfl⟩; rw [HPP.out])
                    | (go_at_call 72; refine (l2Pow_at _ 8 _ (by omega) rfl).mono ?_; rintro e w' ⟨rfl, rfl⟩))
                go_ret
                exact ⟨ret_i64 (by simp [kindM, hV, hr, hw, hx, show ¬ 0 < pte / 18014398509481984 % 1024 by omega, show ¬ 0 < t % 8 by omega, pow3, HPP.out]), _, rfl⟩
            · by_cases hm : 0 < t % 64
              · go_wp2_with (first
                    | (go_at_call 74; refine (l2Bit_at pte 0 1 _ h0 h1 (by omega) (by omega) rfl).mono ?_; rintro e w' ⟨rfl, n7, rfl⟩; rw [hV])
                    | (go_at_call 71; refine (l2Bits_at pte 54 63 18014398509481984 1024 _ h0 h1 (by omega) (by omega) (by omega) (by omega) rfl rfl).mono ?_; rintro e w' ⟨rfl, n8, rfl⟩)
                    | (go_at_call 75; refine (l2Ppn_at pte _ h0 h1).mono ?_; rintro e w' ⟨rfl, n9, rfl⟩; rw [HPP.out])
                    | (go_at_call 72; refine (l2Pow_at _ 64 _ (by omega) rfl).mono ?_; rintro e w' ⟨rfl, rfl⟩))
                go_ret
                exact ⟨ret_i64 (by simp [kindM, hV, hr, hw, hx, show ¬ 0 < pte / 18014398509481984 % 1024 by omega, pow3, HPP.out, hm]), _, rfl⟩
              · go_wp2_with (first
                    | (go_at_call 74; refine (l2Bit_at pte 0 1 _ h0 h1 (by omega) (by omega) rfl).mono ?_; rintro e w' ⟨rfl, n7, rfl⟩; rw [hV])
                    | (go_at_call 71; refine (l2Bits_at pte 54 63 18014398509481984 1024 _ h0 h1 (by omega) (by omega) (by omega) (by omega) rfl rfl).mono ?_; rintro e w' ⟨rfl, n8, rfl⟩)
                    | (go_at_call 75; refine (l2Ppn_at pte _ h0 h1).mono ?_; rintro e w' ⟨rfl, n9, rfl⟩; rw [HPP.out])
                    | (go_at_call 72; refine (l2Pow_at _ 64 _ (by omega) rfl).mono ?_; rintro e w' ⟨rfl, rfl⟩))
                go_ret
                exact ⟨ret_i64 (by simp [kindM, hV, hr, hw, hx, show ¬ 0 < pte / 18014398509481984 % 1024 by omega, show ¬ 0 < t % 64 by omega, pow3, HPP.out]), _, rfl⟩
        · -- W and not R
          go_wp2_with (first
            | (go_at_call 74; refine (l2Bit_at pte 0 1 _ h0 h1 (by omega) (by omega) rfl).mono ?_; rintro e w' ⟨rfl, n7, rfl⟩; rw [hV])
            | (go_at_call 71; refine (l2Bits_at pte 54 63 18014398509481984 1024 _ h0 h1 (by omega) (by omega) (by omega) (by omega) rfl rfl).mono ?_; rintro e w' ⟨rfl, n8, rfl⟩))
          go_ret
          exact ⟨ret_i64 (by simp [kindM, hr, hw]), _, rfl⟩
        · -- R
          obtain ⟨t, ht⟩ : ∃ t, ppnM pte = t := ⟨_, rfl⟩
          have hpp : 0 ≤ t := by rw [← ht]; exact Int.emod_nonneg _ (by omega)
          have HPP : Hid (ppnM pte = t) := ht
          clear ht
          rcases (show level = 0 ∨ level = 1 ∨ level = 2 by omega) with rfl | rfl | rfl
          · go_wp2_with (first
                  | (go_at_call 74; refine (l2Bit_at pte 0 1 _ h0 h1 (by omega) (by omega) rfl).mono ?_; rintro e w' ⟨rfl, n7, rfl⟩; rw [hV])
                  | (go_at_call 71; refine (l2Bits_at pte 54 63 18014398509481984 1024 _ h0 h1 (by omega) (by omega) (by omega) (by omega) rfl rfl).mono ?_; rintro e w' ⟨rfl, n8, rfl⟩)
                  | (go_at_call 75; refine (l2Ppn_at pte _ h0 h1).mono ?_; rintro e w' ⟨rfl, n9, rfl⟩; rw [HPP.out])
                  | (go_at_call 72; refine (l2Pow_at _ 1 _ (by omega) rfl).mono ?_; rintro e w' ⟨rfl, rfl⟩))
            go_ret
            exact ⟨ret_i64 (by simp [kindM, hV, hr, hw, hres, pow3, Int.emod_one]), _, rfl⟩
          · by_cases hm : 0 < t % 8
            · go_wp2_with (first
                  | (go_at_call 74; refine (l2Bit_at pte 0 1 _ h0 h1 (by omega) (by omega) rfl).mono ?_; rintro e w' ⟨rfl, n7, rfl⟩; rw [hV])
                  | (go_at_call 71; refine (l2Bits_at pte 54 63 18014398509481984 1024 _ h0 h1 (by omega) (by omega) (by omega) (by omega) rfl rfl).mono ?_; rintro e w' ⟨rfl, n8, rfl⟩)
                  | (go_at_call 75; refine (l2Ppn_at pte _ h0 h1).mono ?_; rintro e w' ⟨rfl, n9, rfl⟩; rw [HPP.out])
                  | (go_at_call 72; refine (l2Pow_at _ 8 _ (by omega) rfl).mono ?_; rintro e w' ⟨rfl, rfl⟩))
              go_ret
              exact ⟨ret_i64 (by simp [kindM, hV, hr, hw, show ¬ 0 < pte / 18014398509481984 % 1024 by omega, pow3, HPP.out, hm]), _, rfl⟩
            · go_wp2_with (first
                  | (go_at_call 74; refine (l2Bit_at pte 0 1 _ h0 h1 (by omega) (by omega) rfl).mono ?_; rintro e w' ⟨rfl, n7, rfl⟩; rw [hV])
                  | (go_at_call 71; refine (l2Bits_at pte 54 63 18014398509481984 1024 _ h0 h1 (by omega) (by omega) (by omega) (by omega) rfl rfl).mono ?_; rintro e w' ⟨rfl, n8, rfl⟩)
                  | (go_at_call 75; refine (l2Ppn_at pte _ h0 h1).mono ?_; rintro e w' ⟨rfl, n9, rfl⟩; rw [HPP.out])
                  | (go_at_call 72; refine (l2Pow_at _ 8 _ (by omega) rfl).mono ?_; rintro e w' ⟨rfl, rfl⟩))
              go_ret
              exact ⟨ret_i64 (by simp [kindM, hV, hr, hw, show ¬ 0 < pte / 18014398509481984 % 1024 by omega, show ¬ 0 < t % 8 by omega, pow3, HPP.out]), _, rfl⟩
          · by_cases hm : 0 < t % 64
            · go_wp2_with (first
                  | (go_at_call 74; refine (l2Bit_at pte 0 1 _ h0 h1 (by omega) (by omega) rfl).mono ?_; rintro e w' ⟨rfl, n7, rfl⟩; rw [hV])
                  | (go_at_call 71; refine (l2Bits_at pte 54 63 18014398509481984 1024 _ h0 h1 (by omega) (by omega) (by omega) (by omega) rfl rfl).mono ?_; rintro e w' ⟨rfl, n8, rfl⟩)
                  | (go_at_call 75; refine (l2Ppn_at pte _ h0 h1).mono ?_; rintro e w' ⟨rfl, n9, rfl⟩; rw [HPP.out])
                  | (go_at_call 72; refine (l2Pow_at _ 64 _ (by omega) rfl).mono ?_; rintro e w' ⟨rfl, rfl⟩))
              go_ret
              exact ⟨ret_i64 (by simp [kindM, hV, hr, hw, show ¬ 0 < pte / 18014398509481984 % 1024 by omega, pow3, HPP.out, hm]), _, rfl⟩
            · go_wp2_with (first
                  | (go_at_call 74; refine (l2Bit_at pte 0 1 _ h0 h1 (by omega) (by omega) rfl).mono ?_; rintro e w' ⟨rfl, n7, rfl⟩; rw [hV])
                  | (go_at_call 71; refine (l2Bits_at pte 54 63 18014398509481984 1024 _ h0 h1 (by omega) (by omega) (by omega) (by omega) rfl rfl).mono ?_; rintro e w' ⟨rfl, n8, rfl⟩)
                  | (go_at_call 75; refine (l2Ppn_at pte _ h0 h1).mono ?_; rintro e w' ⟨rfl, n9, rfl⟩; rw [HPP.out])
                  | (go_at_call 72; refine (l2Pow_at _ 64 _ (by omega) rfl).mono ?_; rintro e w' ⟨rfl, rfl⟩))
              go_ret
              exact ⟨ret_i64 (by simp [kindM, hV, hr, hw, show ¬ 0 < pte / 18014398509481984 % 1024 by omega, show ¬ 0 < t % 64 by omega, pow3, HPP.out]), _, rfl⟩
        · -- R and W
          obtain ⟨t, ht⟩ : ∃ t, ppnM pte = t := ⟨_, rfl⟩
          have hpp : 0 ≤ t := by rw [← ht]; exact Int.emod_nonneg _ (by omega)
          have HPP : Hid (ppnM pte = t) := ht
          clear ht
          rcases (show level = 0 ∨ level = 1 ∨ level = 2 by omega) with rfl | rfl | rfl
          · go_wp2_with (first
                  | (go_at_call 74; refine (l2Bit_at pte 0 1 _ h0 h1 (by omega) (by omega) rfl).mono ?_; rintro e w' ⟨rfl, n7, rfl⟩; rw [hV])
                  | (go_at_call 71; refine (l2Bits_at pte 54 63 18014398509481984 1024 _ h0 h1 (by omega) (by omega) (by omega) (by omega) rfl rfl).mono ?_; rintro e w' ⟨rfl, n8, rfl⟩)
                  | (go_at_call 75; refine (l2Ppn_at pte _ h0 h1).mono ?_; rintro e w' ⟨rfl, n9, rfl⟩; rw [HPP.out])
                  | (go_at_call 72; refine (l2Pow_at _ 1 _ (by omega) rfl).mono ?_; rintro e w' ⟨rfl, rfl⟩))
            go_ret
            exact ⟨ret_i64 (by simp [kindM, hV, hr, hw, hres, pow3, Int.emod_one]), _, rfl⟩
          · by_cases hm : 0 < t % 8
            · go_wp2_with (first
                  | (go_at_call 74; refine (l2Bit_at pte 0 1 _ h0 h1 (by omega) (by omega) rfl).mono ?_; rintro e w' ⟨rfl, n7, rfl⟩; rw [hV])
                  | (go_at_call 71; refine (l2Bits_at pte 54 63 18014398509481984 1024 _ h0 h1 (by omega) (by omega) (by omega) (by omega) rfl rfl).mono ?_; rintro e w' ⟨rfl, n8, rfl⟩)
                  | (go_at_call 75; refine (l2Ppn_at pte _ h0 h1).mono ?_; rintro e w' ⟨rfl, n9, rfl⟩; rw [HPP.out])
                  | (go_at_call 72; refine (l2Pow_at _ 8 _ (by omega) rfl).mono ?_; rintro e w' ⟨rfl, rfl⟩))
              go_ret
              exact ⟨ret_i64 (by simp [kindM, hV, hr, hw, show ¬ 0 < pte / 18014398509481984 % 1024 by omega, pow3, HPP.out, hm]), _, rfl⟩
            · go_wp2_with (first
                  | (go_at_call 74; refine (l2Bit_at pte 0 1 _ h0 h1 (by omega) (by omega) rfl).mono ?_; rintro e w' ⟨rfl, n7, rfl⟩; rw [hV])
                  | (go_at_call 71; refine (l2Bits_at pte 54 63 18014398509481984 1024 _ h0 h1 (by omega) (by omega) (by omega) (by omega) rfl rfl).mono ?_; rintro e w' ⟨rfl, n8, rfl⟩)
                  | (go_at_call 75; refine (l2Ppn_at pte _ h0 h1).mono ?_; rintro e w' ⟨rfl, n9, rfl⟩; rw [HPP.out])
                  | (go_at_call 72; refine (l2Pow_at _ 8 _ (by omega) rfl).mono ?_; rintro e w' ⟨rfl, rfl⟩))
              go_ret
              exact ⟨ret_i64 (by simp [kindM, hV, hr, hw, show ¬ 0 < pte / 18014398509481984 % 1024 by omega, show ¬ 0 < t % 8 by omega, pow3, HPP.out]), _, rfl⟩
          · by_cases hm : 0 < t % 64
            · go_wp2_with (first
                  | (go_at_call 74; refine (l2Bit_at pte 0 1 _ h0 h1 (by omega) (by omega) rfl).mono ?_; rintro e w' ⟨rfl, n7, rfl⟩; rw [hV])
                  | (go_at_call 71; refine (l2Bits_at pte 54 63 18014398509481984 1024 _ h0 h1 (by omega) (by omega) (by omega) (by omega) rfl rfl).mono ?_; rintro e w' ⟨rfl, n8, rfl⟩)
                  | (go_at_call 75; refine (l2Ppn_at pte _ h0 h1).mono ?_; rintro e w' ⟨rfl, n9, rfl⟩; rw [HPP.out])
                  | (go_at_call 72; refine (l2Pow_at _ 64 _ (by omega) rfl).mono ?_; rintro e w' ⟨rfl, rfl⟩))
              go_ret
              exact ⟨ret_i64 (by simp [kindM, hV, hr, hw, show ¬ 0 < pte / 18014398509481984 % 1024 by omega, pow3, HPP.out, hm]), _, rfl⟩
            · go_wp2_with (first
                  | (go_at_call 74; refine (l2Bit_at pte 0 1 _ h0 h1 (by omega) (by omega) rfl).mono ?_; rintro e w' ⟨rfl, n7, rfl⟩; rw [hV])
                  | (go_at_call 71; refine (l2Bits_at pte 54 63 18014398509481984 1024 _ h0 h1 (by omega) (by omega) (by omega) (by omega) rfl rfl).mono ?_; rintro e w' ⟨rfl, n8, rfl⟩)
                  | (go_at_call 75; refine (l2Ppn_at pte _ h0 h1).mono ?_; rintro e w' ⟨rfl, n9, rfl⟩; rw [HPP.out])
                  | (go_at_call 72; refine (l2Pow_at _ 64 _ (by omega) rfl).mono ?_; rintro e w' ⟨rfl, rfl⟩))
              go_ret
              exact ⟨ret_i64 (by simp [kindM, hV, hr, hw, show ¬ 0 < pte / 18014398509481984 % 1024 by omega, show ¬ 0 < t % 64 by omega, pow3, HPP.out]), _, rfl⟩
  · by_cases hneg : level < 0
    · go_wp2_with fail
      go_ret
      exact ⟨ret_i64 (by simp [kindM, hneg]), _, rfl⟩
    · have hgt : 2 < level := by omega
      go_wp2_with fail
      go_ret
      exact ⟨ret_i64 (by simp [kindM, hgt]), _, rfl⟩

end Go.Proofs.Ythekickjjaleaab
