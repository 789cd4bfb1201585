import Derived.Test.YthekickjjaleaacPack01
import Derived.Deep.RegionLaw
import Derived.StillTailTactics
/- The specification's chapter 2: l2Pow, l2Bits, l2Bit, Canonical, l2Ppn, PteKind, Granted, PhysOf. -/
namespace Go.Proofs.Ythekickjjaleaac
open Go.RowKit
set_option linter.unusedVariables false

theorem pow_bd (k : Nat) (h : k ≤ 62) : 1 ≤ (2 : Int) ^ k ∧ (2 : Int) ^ k ≤ 4611686018427387904 := by
  have h1 : (2 : Nat) ^ k ≤ 2 ^ 62 := Nat.pow_le_pow_right (by omega) h
  have h2 : 1 ≤ (2 : Nat) ^ k := Nat.one_le_two_pow
  have e : (2 : Int) ^ k = ((2 ^ k : Nat) : Int) := by push_cast; rfl
  rw [e]
  omega

theorem ret_i64 {a b : Int} (h : a = b) : Ending.returned (.int .i64 a) = .returned (.int .i64 b) := by rw [h]
theorem ret_bool {a b : Bool} (h : a = b) : Ending.returned (.bool a) = .returned (.bool b) := by rw [h]

theorem l2Pow_any (k : Nat) : ∀ (n : Int) (w : World), n ≤ k → k ≤ 63 → n.toNat = k →
    Calls Try.prog 45 #[.int .i64 n] w fun e w' => e = .returned (.int .u64 (2 ^ k)) ∧ w' = w := by
  induction k with
  | zero =>
    intro n w h h' h''
    have hn : n ≤ 0 := by omega
    go_enter Try.func45, Try.ntmps45
    go_wp2_with fail
    go_ret
    exact ⟨rfl, rfl⟩
  | succ k ih =>
    intro n w h h' h''
    have hn : ¬ n ≤ 0 := by omega
    have hb := pow_bd k (by omega)
    have IH : Hid (∀ (n : Int) (w : World), n ≤ k → k ≤ 63 → n.toNat = k →
      Calls Try.prog 45 #[.int .i64 n] w fun e w' => e = .returned (.int .u64 (2 ^ k)) ∧ w' = w) := ih
    have HE : Hid ((2 : Int) ^ (k + 1) = 2 * 2 ^ k) := by show _ = _; rw [Int.pow_succ, Int.mul_comm]
    rw [HE.out]
    clear ih HE
    have H'' : Hid (n.toNat = k + 1) := h''
    clear h''
    generalize (2 : Int) ^ k = p at *
    go_enter Try.func45, Try.ntmps45
    go_wp2_with fail
    refine (IH.out (n - 1) w (by omega) (by omega) (by have := H''.out; omega)).mono ?_
    rintro e w' ⟨rfl, rfl⟩
    go_wp2_with fail
    go_ret
    exact ⟨rfl, rfl⟩

/-- 2 to the n, p being that number. -/
theorem l2Pow_at (n p : Int) (w : World) (hn : n ≤ 63) (hp : p = 2 ^ n.toNat) :
    Calls Try.prog 45 #[.int .i64 n] w fun e w' => e = .returned (.int .u64 p) ∧ w' = w := by
  rw [hp]
  exact l2Pow_any n.toNat n w (by omega) (by omega) rfl

set_option maxHeartbeats 400000 in
theorem l2Bits_at (x i j p q : Int) (w : World) (h0 : 0 ≤ x) (h1 : x ≤ 18446744073709551615) (hi : 0 ≤ i) (hi' : i ≤ 63) (hj : i ≤ j + 1) (hj' : j - i ≤ 62) (hp : p = 2 ^ i.toNat) (hq : q = 2 ^ (j - i + 1).toNat) :
    Calls Try.prog 47 #[.int .u64 x, .int .i64 i, .int .i64 j] w fun e w' => e = .returned (.int .u64 (x / p % q)) ∧ ∃ n, w' = w.drewN n := by
  have hp1 : 1 ≤ p := by rw [hp]; exact Int.pow_pos (by omega : (0 : Int) < 2)
  have hq1 : 1 ≤ q := by rw [hq]; exact Int.pow_pos (by omega : (0 : Int) < 2)
  have hxp : 0 ≤ x / p := Int.ediv_nonneg h0 (by omega)
  have HP : Hid (p = 2 ^ i.toNat) := hp
  have HQ : Hid (q = 2 ^ (j - i + 1).toNat) := hq
  clear hp hq
  go_enter Try.func47, Try.ntmps47
  go_wp2_with fail
  go_quiet (first
    | (go_at_call_of 45 (Value.int IntKind.i64 i); exact Calls.quiet_of_same (l2Pow_at i p _ (by omega) HP.out))
    | (go_at_call 45; exact Calls.quiet_of_same (l2Pow_at (j - i + 1) q _ (by omega) HQ.out)))
  go_wp2_with fail
  go_ret
  exact ⟨rfl, nq, rfl⟩

theorem l2Bit_at (x i p : Int) (w : World) (h0 : 0 ≤ x) (h1 : x ≤ 18446744073709551615) (hi : 0 ≤ i) (hi' : i ≤ 63) (hp : p = 2 ^ i.toNat) :
    Calls Try.prog 77 #[.int .u64 x, .int .i64 i] w fun e w' => e = .returned (.bool (bitB x p)) ∧ ∃ n, w' = w.drewN n := by
  have HP : Hid (p = 2 ^ i.toNat) := hp
  clear hp
  go_enter Try.func77, Try.ntmps77
  go_wp2_with fail
  refine (l2Bits_at x i i p 2 w h0 h1 hi hi' (by omega) (by omega) HP.out (by rw [show i - i + 1 = 1 by omega]; rfl)).mono ?_
  rintro e w' ⟨rfl, nq, rfl⟩
  go_wp2_with fail
  go_ret
  exact ⟨rfl, nq, rfl⟩

theorem l2Ppn_at (x : Int) (w : World) (h0 : 0 ≤ x) (h1 : x ≤ 18446744073709551615) :
    Calls Try.prog 84 #[.int .u64 x] w fun e w' => e = .returned (.int .u64 (ppnM x)) ∧ ∃ n, w' = w.drewN n := by
  go_enter Try.func84, Try.ntmps84
  go_wp2_with fail
  refine (l2Bits_at x 10 53 1024 17592186044416 w h0 h1 (by omega) (by omega) (by omega) (by omega) rfl rfl).mono ?_
  rintro e w' ⟨rfl, nq, rfl⟩
  go_wp2_with fail
  go_ret
  exact ⟨rfl, nq, rfl⟩

set_option maxHeartbeats 1600000 in
theorem specPteKind_at (pte level : Int) (w : World) (h0 : 0 ≤ pte) (h1 : pte ≤ 18446744073709551615) (hl : -9223372036854775808 ≤ level) (hl' : level ≤ 9223372036854775807) :
    Calls Try.prog 78 #[.int .u64 pte, .int .i64 level] w fun e w' => e = .returned (.int .i64 (kindM pte level)) ∧ ∃ n, w' = w.drewN n := by
  go_enter Try.func78, Try.ntmps78
  go_wp2_with fail
  refine (l2Bit_at pte 1 2 w h0 h1 (by omega) (by omega) rfl).mono ?_
  rintro e w' ⟨rfl, n1, rfl⟩
  go_wp2_with fail
  refine (l2Bit_at pte 2 4 _ h0 h1 (by omega) (by omega) rfl).mono ?_
  rintro e w' ⟨rfl, n2, rfl⟩
  go_wp2_with fail
  refine (l2Bit_at pte 3 8 _ h0 h1 (by omega) (by omega) rfl).mono ?_
  rintro e w' ⟨rfl, n3, rfl⟩
  go_wp2_with fail
  refine (l2Bit_at pte 4 16 _ h0 h1 (by omega) (by omega) rfl).mono ?_
  rintro e w' ⟨rfl, n4, rfl⟩
  go_wp2_with fail
  refine (l2Bit_at pte 6 64 _ h0 h1 (by omega) (by omega) rfl).mono ?_
  rintro e w' ⟨rfl, n5, rfl⟩
  go_wp2_with fail
  refine (l2Bit_at pte 7 128 _ h0 h1 (by omega) (by omega) rfl).mono ?_
  rintro e w' ⟨rfl, n6, rfl⟩
  by_cases hlev : 0 ≤ level ∧ level ≤ 2
  · obtain ⟨hl0, hl2⟩ := hlev
    cases hV : bitB pte 1
    · go_wp2_with (first
        | (go_at_call 77; refine (l2Bit_at pte 0 1 _ h0 h1 (by omega) (by omega) rfl).mono ?_; rintro e w' ⟨rfl, n7, rfl⟩; rw [hV]))
      go_ret
      exact ⟨ret_i64 (by simp [kindM, hV]), _, rfl⟩
    · by_cases hres : 0 < pte / 18014398509481984 % 1024
      · go_wp2_with (first
          | (go_at_call 77; refine (l2Bit_at pte 0 1 _ h0 h1 (by omega) (by omega) rfl).mono ?_; rintro e w' ⟨rfl, n7, rfl⟩; rw [hV])
          | (go_at_call 47; refine (l2Bits_at pte 54 63 18014398509481984 1024 _ h0 h1 (by omega) (by omega) (by omega) (by omega) rfl rfl).mono ?_; rintro e w' ⟨rfl, n8, rfl⟩))
        go_ret
        exact ⟨ret_i64 (by simp [kindM, hres]), _, rfl⟩
      · have hres' : decide (0 < pte / 18014398509481984 % 1024) = false := by simpa using hres
        cases hr : bitB pte 2 <;> cases hw : bitB pte 4
        · cases hx : bitB pte 8
          · cases hu : bitB pte 16 <;> cases ha : bitB pte 64 <;> cases hd : bitB pte 128
            all_goals
              rcases (show level = 0 ∨ level = 1 ∨ level = 2 by omega) with rfl | rfl | rfl
              all_goals
                go_wp2_with (first
                  | (go_at_call 77; refine (l2Bit_at pte 0 1 _ h0 h1 (by omega) (by omega) rfl).mono ?_; rintro e w' ⟨rfl, n7, rfl⟩; rw [hV])
                  | (go_at_call 47; refine (l2Bits_at pte 54 63 18014398509481984 1024 _ h0 h1 (by omega) (by omega) (by omega) (by omega) rfl rfl).mono ?_; rintro e w' ⟨rfl, n8, rfl⟩))
                go_ret
                exact ⟨ret_i64 (by simp [kindM, hV, hr, hw, hx, hu, ha, hd, hres]), _, rfl⟩
          · -- only X: a leaf
            obtain ⟨t, ht⟩ : ∃ t, ppnM pte = t := ⟨_, rfl⟩
            have hpp : 0 ≤ t := by rw [← ht]; exact Int.emod_nonneg _ (by omega)
            have HPP : Hid (ppnM pte = t) := ht
            clear ht
            rcases (show level = 0 ∨ level = 1 ∨ level = 2 by omega) with rfl | rfl | rfl
            · go_wp2_with (first
                    | (go_at_call 77; refine (l2Bit_at pte 0 1 _ h0 h1 (by omega) (by omega) rfl).mono ?_; rintro e w' ⟨rfl, n7, rfl⟩; rw [hV])
                    | (go_at_call 47; refine (l2Bits_at pte 54 63 18014398509481984 1024 _ h0 h1 (by omega) (by omega) (by omega) (by omega) rfl rfl).mono ?_; rintro e w' ⟨rfl, n8, rfl⟩)
                    | (go_at_call 84; refine (l2Ppn_at pte _ h0 h1).mono ?_; rintro e w' ⟨rfl, n9, rfl⟩; rw [HPP.out])
                    | (go_at_call 45; refine (l2Pow_at _ 1 _ (by omega) rfl).mono ?_; rintro e w' ⟨rfl, rfl⟩))
              go_ret
              exact ⟨ret_i64 (by simp [kindM, hV, hr, hw, hx, hres, pow3, Int.emod_one]), _, rfl⟩
            · by_cases hm : 0 < t % 8
              · go_wp2_with (first
                    | (go_at_call 77; refine (l2Bit_at pte 0 1 _ h0 h1 (by omega) (by omega) rfl).mono ?_; rintro e w' ⟨rfl, n7, rfl⟩; rw [hV])
                    | (go_at_call 47; refine (l2Bits_at pte 54 63 18014398509481984 1024 _ h0 h1 (by omega) (by omega) (by omega) (by omega) rfl rfl).mono ?_; rintro e w' ⟨rfl, n8, rfl⟩)
                    | (go_at_call 84; refine (l2Ppn_at pte _ h0 h1).mono ?_; rintro e w' ⟨rfl, n9, rfl⟩; rw [HPP.out])
                    | (go_at_call 45; refine (l2Pow_at _ 8 _ (by omega) rfl).mono ?_; rintro e w' ⟨rfl, rfl⟩))
                go_ret
                exact ⟨ret_i64 (by simp [kindM, hV, hr, hw, hx, show ¬ 0 < pte / 18014398509481984 % 1024 by omega, pow3, HPP.out, hm]), _, rfl⟩
              · go_wp2_with (first
                    | (go_at_call 77; refine (l2Bit_at pte 0 1 _ h0 h1 (by omega) (by omega) rfl).mono ?_; rintro e w' ⟨rfl, n7, rfl⟩; rw [hV])
                    | (go_at_call 47; refine (l2Bits_at pte 54 63 18014398509481984 1024 _ h0 h1 (by omega) (by omega) (by omega) (by omega) rfl rfl).mono ?_; rintro e w' ⟨rfl, n8, rfl⟩)
                    | (go_at_call 84; refine (l2Ppn_at pte _ h0 h1).mono ?_; rintro e w' ⟨rfl, n9, rfl⟩; rw [HPP.out])
                    | (go_at_call 45; refine (l2Pow_at _ 8 _ (by omega) rfl).mono ?_; rintro e w' ⟨rfl, rfl⟩))
                go_ret
                exact ⟨ret_i64 (by simp [kindM, hV, hr, hw, hx, show ¬ 0 < pte / 18014398509481984 % 1024 by omega, show ¬ 0 < t % 8 by omega, pow3, HPP.out]), _, rfl⟩
            · by_cases hm : 0 < t % 64
              · go_wp2_with (first
                    | (go_at_call 77; refine (l2Bit_at pte 0 1 _ h0 h1 (by omega) (by omega) rfl).mono ?_; rintro e w' ⟨rfl, n7, rfl⟩; rw [hV])
                    | (go_at_call 47; refine (l2Bits_at pte 54 63 18014398509481984 1024 _ h0 h1 (by omega) (by omega) (by omega) (by omega) rfl rfl).mono ?_; rintro e w' ⟨rfl, n8, rfl⟩)
                    | (go_at_call 84; refine (l2Ppn_at pte _ h0 h1).mono ?_; rintro e w' ⟨rfl, n9, rfl⟩; rw [HPP.out])
                    | (go_at_call 45; refine (l2Pow_at _ 64 _ (by omega) rfl).mono ?_; rintro e w' ⟨rfl, rfl⟩))
                go_ret
                exact ⟨ret_i64 (by simp [kindM, hV, hr, hw, hx, show ¬ 0 < pte / 18014398509481984 % 1024 by omega, pow3, HPP.out, hm]), _, rfl⟩
              · go_wp2_with (first
                    | (go_at_call 77; refine (l2Bit_at pte 0 1 _ h0 h1 (by omega) (by omega) rfl).mono ?_; rintro e w' ⟨rfl, n7, rfl⟩; rw [hV])
                    | (go_at_call 47; refine (l2Bits_at pte 54 63 18014398509481984 1024 _ h0 h1 (by omega) (by omega) (by omega) (by omega) rfl rfl).mono ?_; rintro e w' ⟨rfl, n8, rfl⟩)
                    | (go_at_call 84; refine (l2Ppn_at pte _ h0 h1).mono ?_; rintro e w' ⟨rfl, n9, rfl⟩; rw [HPP.out])
                    | (go_at_call 45; refine (l2Pow_at _ 64 _ (by omega) rfl).mono ?_; rintro e w' ⟨rfl, rfl⟩))
                go_ret
                exact ⟨ret_i64 (by simp [kindM, hV, hr, hw, hx, show ¬ 0 < pte / 18014398509481984 % 1024 by omega, show ¬ 0 < t % 64 by omega, pow3, HPP.out]), _, rfl⟩
        · -- W and not R
          go_wp2_with (first
            | (go_at_call 77; refine (l2Bit_at pte 0 1 _ h0 h1 (by omega) (by omega) rfl).mono ?_; rintro e w' ⟨rfl, n7, rfl⟩; rw [hV])
            | (go_at_call 47; refine (l2Bits_at pte 54 63 18014398509481984 1024 _ h0 h1 (by omega) (by omega) (by omega) (by omega) rfl rfl).mono ?_; rintro e w' ⟨rfl, n8, rfl⟩))
          go_ret
          exact ⟨ret_i64 (by simp [kindM, hr, hw]), _, rfl⟩
        · -- R
          obtain ⟨t, ht⟩ : ∃ t, ppnM pte = t := ⟨_, rfl⟩
          have hpp : 0 ≤ t := by rw [← ht]; exact Int.emod_nonneg _ (by omega)
          have HPP : Hid (ppnM pte = t) := ht
          clear ht
          rcases (show level = 0 ∨ level = 1 ∨ level = 2 by omega) with rfl | rfl | rfl
          · go_wp2_with (first
                  | (go_at_call 77; refine (l2Bit_at pte 0 1 _ h0 h1 (by omega) (by omega) rfl).mono ?_; rintro e w' ⟨rfl, n7, rfl⟩; rw [hV])
                  | (go_at_call 47; refine (l2Bits_at pte 54 63 18014398509481984 1024 _ h0 h1 (by omega) (by omega) (by omega) (by omega) rfl rfl).mono ?_; rintro e w' ⟨rfl, n8, rfl⟩)
                  | (go_at_call 84; refine (l2Ppn_at pte _ h0 h1).mono ?_; rintro e w' ⟨rfl, n9, rfl⟩; rw [HPP.out])
                  | (go_at_call 45; refine (l2Pow_at _ 1 _ (by omega) rfl).mono ?_; rintro e w' ⟨rfl, rfl⟩))
            go_ret
            exact ⟨ret_i64 (by simp [kindM, hV, hr, hw, hres, pow3, Int.emod_one]), _, rfl⟩
          · by_cases hm : 0 < t % 8
            · go_wp2_with (first
                  | (go_at_call 77; refine (l2Bit_at pte 0 1 _ h0 h1 (by omega) (by omega) rfl).mono ?_; rintro e w' ⟨rfl, n7, rfl⟩; rw [hV])
                  | (go_at_call 47; refine (l2Bits_at pte 54 63 18014398509481984 1024 _ h0 h1 (by omega) (by omega) (by omega) (by omega) rfl rfl).mono ?_; rintro e w' ⟨rfl, n8, rfl⟩)
                  | (go_at_call 84; refine (l2Ppn_at pte _ h0 h1).mono ?_; rintro e w' ⟨rfl, n9, rfl⟩; rw [HPP.out])
                  | (go_at_call 45; refine (l2Pow_at _ 8 _ (by omega) rfl).mono ?_; rintro e w' ⟨rfl, rfl⟩))
              go_ret
              exact ⟨ret_i64 (by simp [kindM, hV, hr, hw, show ¬ 0 < pte / 18014398509481984 % 1024 by omega, pow3, HPP.out, hm]), _, rfl⟩
            · go_wp2_with (first
                  | (go_at_call 77; refine (l2Bit_at pte 0 1 _ h0 h1 (by omega) (by omega) rfl).mono ?_; rintro e w' ⟨rfl, n7, rfl⟩; rw [hV])
                  | (go_at_call 47; refine (l2Bits_at pte 54 63 18014398509481984 1024 _ h0 h1 (by omega) (by omega) (by omega) (by omega) rfl rfl).mono ?_; rintro e w' ⟨rfl, n8, rfl⟩)
                  | (go_at_call 84; refine (l2Ppn_at pte _ h0 h1).mono ?_; rintro e w' ⟨rfl, n9, rfl⟩; rw [HPP.out])
                  | (go_at_call 45; refine (l2Pow_at _ 8 _ (by omega) rfl).mono ?_; rintro e w' ⟨rfl, rfl⟩))
              go_ret
              exact ⟨ret_i64 (by simp [kindM, hV, hr, hw, show ¬ 0 < pte / 18014398509481984 % 1024 by omega, show ¬ 0 < t % 8 by omega, pow3, HPP.out]), _, rfl⟩
          · by_cases hm : 0 < t % 64
            · go_wp2_with (first
                  | (go_at_call 77; refine (l2Bit_at pte 0 1 _ h0 h1 (by omega) (by omega) rfl).mono ?_; rintro e w' ⟨rfl, n7, rfl⟩; rw [hV])
                  | (go_at_call 47; refine (l2Bits_at pte 54 63 18014398509481984 1024 _ h0 h1 (by omega) (by omega) (by omega) (by omega) rfl rfl).mono ?_; rintro e w' ⟨rfl, n8, rfl⟩)
                  | (go_at_call 84; refine (l2Ppn_at pte _ h0 h1).mono ?_; rintro e w' ⟨rfl, n9, rfl⟩; rw [HPP.out])
                  | (go_at_call 45; refine (l2Pow_at _ 64 _ (by omega) rfl).mono ?_; rintro e w' ⟨rfl, rfl⟩))
              go_ret
              exact ⟨ret_i64 (by simp [kindM, hV, hr, hw, show ¬ 0 < pte / 18014398509481984 % 1024 by omega, pow3, HPP.out, hm]), _, rfl⟩
            · go_wp2_with (first
                  | (go_at_call 77; refine (l2Bit_at pte 0 1 _ h0 h1 (by omega) (by omega) rfl).mono ?_; rintro e w' ⟨rfl, n7, rfl⟩; rw [hV])
                  | (go_at_call 47; refine (l2Bits_at pte 54 63 18014398509481984 1024 _ h0 h1 (by omega) (by omega) (by omega) (by omega) rfl rfl).mono ?_; rintro e w' ⟨rfl, n8, rfl⟩)
                  | (go_at_call 84; refine (l2Ppn_at pte _ h0 h1).mono ?_; rintro e w' ⟨rfl, n9, rfl⟩; rw [HPP.out])
                  | (go_at_call 45; refine (l2Pow_at _ 64 _ (by omega) rfl).mono ?_; rintro e w' ⟨rfl, rfl⟩))
              go_ret
              exact ⟨ret_i64 (by simp [kindM, hV, hr, hw, show ¬ 0 < pte / 18014398509481984 % 1024 by omega, show ¬ 0 < t % 64 by omega, pow3, HPP.out]), _, rfl⟩
        · -- R and W
          obtain ⟨t, ht⟩ : ∃ t, ppnM pte = t := ⟨_, rfl⟩
          have hpp : 0 ≤ t := by rw [← ht]; exact Int.emod_nonneg _ (by omega)
          have HPP : Hid (ppnM pte = t) := ht
          clear ht
          rcases (show level = 0 ∨ level = 1 ∨ level = 2 by omega) with rfl | rfl | rfl
          · go_wp2_with (first
                  | (go_at_call 77; refine (l2Bit_at pte 0 1 _ h0 h1 (by omega) (by omega) rfl).mono ?_; rintro e w' ⟨rfl, n7, rfl⟩; rw [hV])
                  | (go_at_call 47; refine (l2Bits_at pte 54 63 18014398509481984 1024 _ h0 h1 (by omega) (by omega) (by omega) (by omega) rfl rfl).mono ?_; rintro e w' ⟨rfl, n8, rfl⟩)
                  | (go_at_call 84; refine (l2Ppn_at pte _ h0 h1).mono ?_; rintro e w' ⟨rfl, n9, rfl⟩; rw [HPP.out])
                  | (go_at_call 45; refine (l2Pow_at _ 1 _ (by omega) rfl).mono ?_; rintro e w' ⟨rfl, rfl⟩))
            go_ret
            exact ⟨ret_i64 (by simp [kindM, hV, hr, hw, hres, pow3, Int.emod_one]), _, rfl⟩
          · by_cases hm : 0 < t % 8
            · go_wp2_with (first
                  | (go_at_call 77; refine (l2Bit_at pte 0 1 _ h0 h1 (by omega) (by omega) rfl).mono ?_; rintro e w' ⟨rfl, n7, rfl⟩; rw [hV])
                  | (go_at_call 47; refine (l2Bits_at pte 54 63 18014398509481984 1024 _ h0 h1 (by omega) (by omega) (by omega) (by omega) rfl rfl).mono ?_; rintro e w' ⟨rfl, n8, rfl⟩)
                  | (go_at_call 84; refine (l2Ppn_at pte _ h0 h1).mono ?_; rintro e w' ⟨rfl, n9, rfl⟩; rw [HPP.out])
                  | (go_at_call 45; refine (l2Pow_at _ 8 _ (by omega) rfl).mono ?_; rintro e w' ⟨rfl, rfl⟩))
              go_ret
              exact ⟨ret_i64 (by simp [kindM, hV, hr, hw, show ¬ 0 < pte / 18014398509481984 % 1024 by omega, pow3, HPP.out, hm]), _, rfl⟩
            · go_wp2_with (first
                  | (go_at_call 77; refine (l2Bit_at pte 0 1 _ h0 h1 (by omega) (by omega) rfl).mono ?_; rintro e w' ⟨rfl, n7, rfl⟩; rw [hV])
                  | (go_at_call 47; refine (l2Bits_at pte 54 63 18014398509481984 1024 _ h0 h1 (by omega) (by omega) (by omega) (by omega) rfl rfl).mono ?_; rintro e w' ⟨rfl, n8, rfl⟩)
                  | (go_at_call 84; refine (l2Ppn_at pte _ h0 h1).mono ?_; rintro e w' ⟨rfl, n9, rfl⟩; rw [HPP.out])
                  | (go_at_call 45; refine (l2Pow_at _ 8 _ (by omega) rfl).mono ?_; rintro e w' ⟨rfl, rfl⟩))
              go_ret
              exact ⟨ret_i64 (by simp [kindM, hV, hr, hw, show ¬ 0 < pte / 18014398509481984 % 1024 by omega, show ¬ 0 < t % 8 by omega, pow3, HPP.out]), _, rfl⟩
          · by_cases hm : 0 < t % 64
            · go_wp2_with (first
                  | (go_at_call 77; refine (l2Bit_at pte 0 1 _ h0 h1 (by omega) (by omega) rfl).mono ?_; rintro e w' ⟨rfl, n7, rfl⟩; rw [hV])
                  | (go_at_call 47; refine (l2Bits_at pte 54 63 18014398509481984 1024 _ h0 h1 (by omega) (by omega) (by omega) (by omega) rfl rfl).mono ?_; rintro e w' ⟨rfl, n8, rfl⟩)
                  | (go_at_call 84; refine (l2Ppn_at pte _ h0 h1).mono ?_; rintro e w' ⟨rfl, n9, rfl⟩; rw [HPP.out])
                  | (go_at_call 45; refine (l2Pow_at _ 64 _ (by omega) rfl).mono ?_; rintro e w' ⟨rfl, rfl⟩))
              go_ret
              exact ⟨ret_i64 (by simp [kindM, hV, hr, hw, show ¬ 0 < pte / 18014398509481984 % 1024 by omega, pow3, HPP.out, hm]), _, rfl⟩
            · go_wp2_with (first
                  | (go_at_call 77; refine (l2Bit_at pte 0 1 _ h0 h1 (by omega) (by omega) rfl).mono ?_; rintro e w' ⟨rfl, n7, rfl⟩; rw [hV])
                  | (go_at_call 47; refine (l2Bits_at pte 54 63 18014398509481984 1024 _ h0 h1 (by omega) (by omega) (by omega) (by omega) rfl rfl).mono ?_; rintro e w' ⟨rfl, n8, rfl⟩)
                  | (go_at_call 84; refine (l2Ppn_at pte _ h0 h1).mono ?_; rintro e w' ⟨rfl, n9, rfl⟩; rw [HPP.out])
                  | (go_at_call 45; refine (l2Pow_at _ 64 _ (by omega) rfl).mono ?_; rintro e w' ⟨rfl, rfl⟩))
              go_ret
              exact ⟨ret_i64 (by simp [kindM, hV, hr, hw, show ¬ 0 < pte / 18014398509481984 % 1024 by omega, show ¬ 0 < t % 64 by omega, pow3, HPP.out]), _, rfl⟩
  · by_cases hneg : level < 0
    · go_wp2_with fail
      go_ret
      exact ⟨ret_i64 (by simp [kindM, hneg]), _, rfl⟩
    · have hgt : 2 < level := by omega
      go_wp2_with fail
      go_ret
      exact ⟨ret_i64 (by simp [kindM, hgt]), _, rfl⟩

end Go.Proofs.Ythekickjjaleaac

/- Plain mathematics of chapter 3: the walk. No program, no memory. -/
namespace Go.Proofs.Ythekickjjaleaac
set_option linter.unusedVariables false

/-- The index of a level in an address. -/
def idxM (va level : Int) : Int := if level = 0 then va / 64 % 8 else if level = 1 then va / 512 % 8 else va / 4096 % 8

/-- A record of the walk: level, address, value. -/
abbrev RecM := Int × Int × Int

/-- The walk from a level on: code, level, entry, records. -/
def fromM (zs : List Int) (va : Int) : Nat → Int → Int × Int × Int × List RecM
  | l, n =>
    if goodB zs.length (64 * n + 8 * idxM va l) 8 = false then (3, l, 0, [])
    else if kindM (rdV zs (64 * n + 8 * idxM va l) 8) l = 0 then (2, l, 0, [])
    else if kindM (rdV zs (64 * n + 8 * idxM va l) 8) l = 2 then (1, l, rdV zs (64 * n + 8 * idxM va l) 8, [((l : Int), 64 * n + 8 * idxM va l, rdV zs (64 * n + 8 * idxM va l) 8)])
    else match l with
      | 0 => (2, 0, 0, [])
      | k + 1 => ((fromM zs va k (ppnM (rdV zs (64 * n + 8 * idxM va l) 8))).1, (fromM zs va k (ppnM (rdV zs (64 * n + 8 * idxM va l) 8))).2.1, (fromM zs va k (ppnM (rdV zs (64 * n + 8 * idxM va l) 8))).2.2.1,
          ((l : Int), 64 * n + 8 * idxM va l, rdV zs (64 * n + 8 * idxM va l) 8) :: (fromM zs va k (ppnM (rdV zs (64 * n + 8 * idxM va l) 8))).2.2.2)

def walkM (zs : List Int) (root va : Int) : Int × Int × Int × List RecM :=
  if canonM va = false then (2, 2, 0, []) else fromM zs va 2 (root % 17592186044416)

def pageM (kind : Int) : Int := if kind = 0 then 12 else if kind = 1 then 13 else 15
def accessM (kind : Int) : Int := if kind = 0 then 1 else if kind = 1 then 5 else 7
def onM (mode satp : Int) : Bool := satp / 1152921504606846976 % 16 == 8 && (mode == 0 || mode == 1)
def asidM (satp : Int) : Int := satp / 17592186044416 % 65536

/-- The answer of a leaf: cause and address. -/
def leafM (pte level mode : Int) (sum mxr : Bool) (kind va : Int) : Int × Int :=
  if grantM pte kind mode sum mxr = true then (0, physM pte level va) else (pageM kind, 0)

def answerM (r : Int × Int × Int × List RecM) (mode : Int) (sum mxr : Bool) (kind va : Int) : Int × Int :=
  if r.1 = 2 then (pageM kind, 0) else if r.1 = 3 then (accessM kind, 0) else leafM r.2.2.1 r.2.1 mode sum mxr kind va

def plainM (zs : List Int) (mode : Int) (sum mxr : Bool) (satp kind va : Int) : Int × Int :=
  if kind < 0 ∨ 2 < kind ∨ mode < 0 ∨ 2 < mode then (63, 0)
  else if onM mode satp = false then (0, va)
  else answerM (walkM zs satp va) mode sum mxr kind va

end Go.Proofs.Ythekickjjaleaac

/- The specification's chapter 3: l3Index, l3Rec, l3From, Walk. -/
namespace Go.Proofs.Ythekickjjaleaac
open Go.RowKit
set_option linter.unusedVariables false

theorem rdV_bd (zs : List Int) (a n : Int) (hn : n ≤ 8) (h : ∀ i : Nat, 0 ≤ zs[i]?.getD 0 ∧ zs[i]?.getD 0 ≤ 255) : 0 ≤ rdV zs a n ∧ rdV zs a n ≤ 18446744073709551615 := by
  unfold rdV
  split
  · have := num_sub_bd zs a.toNat n.toNat h
    have hp : (256 : Int) ^ n.toNat ≤ 18446744073709551616 := by
      rcases (show n.toNat = 0 ∨ n.toNat = 1 ∨ n.toNat = 2 ∨ n.toNat = 3 ∨ n.toNat = 4 ∨ n.toNat = 5 ∨ n.toNat = 6 ∨ n.toNat = 7 ∨ n.toNat = 8 by omega) with h | h | h | h | h | h | h | h | h <;> rw [h] <;> decide
    omega
  · omega

theorem kindM_012 (p l : Int) : kindM p l = 0 ∨ kindM p l = 1 ∨ kindM p l = 2 := by
  unfold kindM
  split
  · exact .inl rfl
  · split
    · split
      · exact .inl rfl
      · exact .inr (.inl rfl)
    · split
      · exact .inl rfl
      · exact .inr (.inr rfl)

theorem kindM_zero (p : Int) : kindM p 0 ≠ 1 := by
  unfold kindM
  split
  · simp
  · split
    · simp
    · split <;> simp

theorem heap_keep {B : Nat} {w w' : World} {g : Nat} {o : Obj} (h : w.heap[g]? = some o) (hb : Below B w w') (hg : g < B) : w'.heap[g]? = some o := by rw [hb.block g hg, h]

end Go.Proofs.Ythekickjjaleaac

/- Rows of one's own and small blocks in memory. No program is named here. -/
namespace Go.Proofs.Ythekickjjaleaac
open Go.RowKit
set_option linter.unusedVariables false

theorem three_cells {v : World} {p : Nat} {T : TypeId} {a b c : Value} (h : v.heap[p]? = some (.cells #[a, b, c] T (0, 0))) :
    (v.cell? ⟨p, 0, none⟩ = some a ∧ v.cell? ⟨p, 1, none⟩ = some b ∧ v.cell? ⟨p, 2, none⟩ = some c) ∧ v.frozen? ⟨p, 0, none⟩ = false ∧ v.frozen? ⟨p, 1, none⟩ = false ∧ v.frozen? ⟨p, 2, none⟩ = false := by
  simp [World.cell?, World.frozen?, h]

theorem tset2 {v : World} {p : Nat} {T : TypeId} {a b c u : Value} (h : v.heap[p]? = some (.cells #[a, b, c] T (0, 0))) : (v.setCell ⟨p, 2, none⟩ u).heap[p]? = some (.cells #[a, b, u] T (0, 0)) := by
  simp [World.setCell, Array.getElem?_modify, h]

theorem gb3 (v : World) (g : Nat) (x y z : Value) : v.grownBy (((v.setCell ⟨g, 0, none⟩ x).setCell ⟨g, 1, none⟩ y).setCell ⟨g, 2, none⟩ z) (some g) :=
  gb_set (gb_set (gb_set (gb_refl v (some g)) 0 x) 1 y) 2 z

theorem bel3 {B : Nat} {a w : World} {g : Nat} (h : Below B a w) (hg : B ≤ g) (x y z : Value) : Below B a (((w.setCell ⟨g, 0, none⟩ x).setCell ⟨g, 1, none⟩ y).setCell ⟨g, 2, none⟩ z) :=
  ((h.setCell (p := ⟨g, 0, none⟩) hg x).setCell (p := ⟨g, 1, none⟩) hg y).setCell (p := ⟨g, 2, none⟩) hg z

theorem own_low {e : TypeId} {size : Nat} {w : World} {base base' n : Nat} {v : Value} {cs : List Value} (h : w.ownsRow base e size v n cs) (hb : base' ≤ base) : w.ownsRow base' e size v n cs := by
  obtain ⟨h1, h2⟩ := h
  refine ⟨h1, ?_⟩
  rcases h2 with h2 | ⟨g, cap, cur, h2, hb', r⟩
  · exact .inl h2
  · exact .inr ⟨g, cap, cur, h2, by omega, r⟩

/-- A row of one's own is not in a block below its base. -/
theorem own_gb {e : TypeId} {size : Nat} {w w' : World} {base n r : Nat} {v : Value} {cs : List Value} (h : w.ownsRow base e size v n cs) (hg : w.grownBy w' (some r)) (hr : r < base) : w'.ownsRow base e size v n cs := by
  refine h.kept hg ?_
  rcases h.2 with ⟨rfl, _⟩ | ⟨g, cap, cur, rfl, hb', _⟩
  · exact .inl rfl
  · refine .inr ?_
    simp [Value.ownBlock]
    omega

theorem own_below {e : TypeId} {size : Nat} {w w' : World} {base n : Nat} {v : Value} {cs : List Value} (h : w.ownsRow base e size v n cs) (hb : Below w.heap.size w w') : w'.ownsRow base e size v n cs := by
  obtain ⟨h1, h2⟩ := h
  refine ⟨h1, ?_⟩
  rcases h2 with h2 | ⟨g, cap, cur, h2, hb', hg, r⟩
  · exact .inl h2
  · refine .inr ⟨g, cap, cur, h2, hb', ?_, r⟩
    exact heap_keep hg hb (Array.getElem?_eq_some_iff.1 hg).1

/-- append onto a row of one's own, nil or not, of a row that is there. -/
theorem wp_append_v {P : Program} (w : World) {o : Oper} {a : Act} {K : Act → World → Prop} {Q : Exit → Act → World → Prop} (s x : Operand) (t : TypeId)
    (ho : o.op = .call { callee := .builtin .append, args := #[s, x], argTypes := #[t, t] }) (e : TypeId) (ht : P.underlying t = some (.slice e)) (z : Value) (size bytes : Nat)
    (hi : (P.info? e).map (fun i => (i.zero, i.size, i.bytes)) = some (some z, size, bytes)) (hzs : z.cells.size = size) (hsz : 0 < size)
    (base n : Nat) (v : Value) (cs : List Value) (hs : a.eval s = v) (hown : w.ownsRow base e size v n cs)
    (b off m c : Nat) (ys : List Value) (hx : a.eval x = .slice (some ⟨b, off, none⟩) m c) (hm : 0 < m) (hy : RowC w (some ⟨b, off, none⟩) m size ys) (h1 : ∀ u ∈ ys, u.oneCell' = true)
    (hbd : (n + m) * bytes ≤ 140737488355328) (hbd' : n + m ≤ 9223372036854775807)
    (hbw : base ≤ w.heap.size) (B : Nat) (W : World) (hb : Below B W w) (hB : B ≤ base)
    (h : ∀ g' cap' w', w'.ownsRow base e size (.slice (some ⟨g', 0, none⟩) (n + m) cap') (n + m) (cs ++ ys) → Below B W w' → K (a.put o.dst (.slice (some ⟨g', 0, none⟩) (n + m) cap')) w') : o.wp P a w K Q := by
  obtain ⟨i0, hi, hz0, hz1, hz2⟩ := info_parts hi
  refine wp_append_own w s x t ho base e i0 z size bytes ht hi hz0 hz1 hz2 hzs hsz v n _ hs hown ⟨b, off, none⟩ m c ys hx hy.1 (src_row hy) h1 (by unfold maxLen; omega) hbd (by omega) ?_
  intro v' w' h1 h2 h3
  have hbl : Below B W w' := hb.grown h2 (by omega) (fun k hk => by have := (hown.lt k hk).1; omega)
  rcases h1.2 with ⟨e1, e2⟩ | ⟨g, cap, cur, e1, r⟩
  · omega
  · subst e1
    exact h g cap w' h1 hbl

/-- .. at a list of operations. -/
theorem append_v {P : Program} (w : World) {ops : Array Oper} {rest : List Oper} {o : Oper} {a : Act} {Q : Exit → Act → World → Prop} (hgd : o.guard = none) (s x : Operand) (t : TypeId)
    (ho : o.op = .call { callee := .builtin .append, args := #[s, x], argTypes := #[t, t] }) (e : TypeId) (ht : P.underlying t = some (.slice e)) (z : Value) (size bytes : Nat)
    (hi : (P.info? e).map (fun i => (i.zero, i.size, i.bytes)) = some (some z, size, bytes)) (hzs : z.cells.size = size) (hsz : 0 < size)
    (base n : Nat) (v : Value) (cs : List Value) (hs : a.eval s = v) (hown : w.ownsRow base e size v n cs)
    (b off m c : Nat) (ys : List Value) (hx : a.eval x = .slice (some ⟨b, off, none⟩) m c) (hm : 0 < m) (hy : RowC w (some ⟨b, off, none⟩) m size ys) (h1 : ∀ u ∈ ys, u.oneCell' = true)
    (hbd : (n + m) * bytes ≤ 140737488355328) (hbd' : n + m ≤ 9223372036854775807)
    (hbw : base ≤ w.heap.size) (B : Nat) (W : World) (hb : Below B W w) (hB : B ≤ base)
    (h : ∀ g' cap' w', w'.ownsRow base e size (.slice (some ⟨g', 0, none⟩) (n + m) cap') (n + m) (cs ++ ys) → Below B W w' → wpList P ops Q rest (a.put o.dst (.slice (some ⟨g', 0, none⟩) (n + m) cap')) w') : wpList P ops Q (o :: rest) a w :=
  wpList_plain hgd fun _ hK => wp_append_v w s x t ho e ht z size bytes hi hzs hsz base n v cs hs hown b off m c ys hx hm hy h1 hbd hbd' hbw B W hb hB fun g' cap' w' h2 h3 => hK _ _ (h g' cap' w' h2 h3)

theorem own_drew {e : TypeId} {size : Nat} {w : World} {base n : Nat} {v : Value} {cs : List Value} (h : w.ownsRow base e size v n cs) : w.drew.ownsRow base e size v n cs := h

/-- The first m cells of a block. -/
def CurAt (e : TypeId) (w : World) (g m : Nat) (cs : List Value) : Prop := cs.length = m ∧ ∃ cur, w.heap[g]? = some (.cells cur e (0, 0)) ∧ cur.toList.take m = cs

theorem CurAt.lt {e : TypeId} {w : World} {g m : Nat} {cs : List Value} (h : CurAt e w g m cs) : g < w.heap.size := by
  obtain ⟨_, cur, h2, _⟩ := h
  exact (Array.getElem?_eq_some_iff.1 h2).1

theorem CurAt.cell {e : TypeId} {w : World} {g m : Nat} {cs : List Value} (h : CurAt e w g m cs) (j : Nat) (u : Value) (hj : cs[j]? = some u) : w.cell? ⟨g, j, none⟩ = some u := by
  obtain ⟨h1, cur, h2, h3⟩ := h
  subst h3
  rw [List.getElem?_take] at hj
  split at hj
  · simp only [World.cell?, h2]
    simpa using hj
  · cases hj

theorem CurAt.free {e : TypeId} {w : World} {g m : Nat} {cs : List Value} (h : CurAt e w g m cs) (j : Nat) : w.frozen? ⟨g, j, none⟩ = false := by
  obtain ⟨h1, cur, h2, h3⟩ := h
  simp [World.frozen?, h2]

theorem CurAt.store {e : TypeId} {w : World} {g m : Nat} {cs : List Value} (h : CurAt e w g m cs) (j : Nat) (u : Value) : CurAt e (w.setCell ⟨g, j, none⟩ u) g m (cs.set j u) := by
  obtain ⟨h1, cur, h2, h3⟩ := h
  refine ⟨by simpa using h1, cur.setIfInBounds j u, by simp [World.setCell, Array.getElem?_modify, h2], ?_⟩
  subst h3
  rw [Array.toList_setIfInBounds, List.take_set]

theorem CurAt.gb {e : TypeId} {w w' : World} {g m r : Nat} {cs : List Value} (h : CurAt e w g m cs) (hg : w.grownBy w' (some r)) (hne : g ≠ r) : CurAt e w' g m cs := by
  obtain ⟨h1, cur, h2, h3⟩ := h
  exact ⟨h1, cur, heap_gb h2 hg hne, h3⟩

theorem CurAt.of_own {e : TypeId} {size : Nat} {w : World} {base g n cap : Nat} {cs : List Value} (h : w.ownsRow base e size (.slice (some ⟨g, 0, none⟩) n cap) n cs) : CurAt e w g (n * size) cs ∧ base ≤ g := by
  obtain ⟨h1, h2⟩ := h
  rcases h2 with ⟨h2, _⟩ | ⟨g', cap', cur, h2, hb, hg, _, _, _, ht⟩
  · cases h2
  · cases h2
    exact ⟨⟨h1, cur, hg, ht⟩, hb⟩

theorem row_own {e : TypeId} {size : Nat} {w : World} {base n : Nat} {a : Option Addr} {cap : Nat} {cs : List Value} (h : w.ownsRow base e size (.slice a n cap) n cs) : RowC w a n size cs := by
  cases a with
  | none =>
    obtain ⟨h1, h2⟩ := h
    rcases h2 with ⟨_, h2⟩ | ⟨g', cap', cur, h2, _⟩
    · subst h2
      exact ⟨h1, .inl rfl⟩
    · cases h2
  | some q =>
    have hq : q = ⟨q.block, 0, none⟩ := by
      obtain ⟨h1, h2⟩ := h
      rcases h2 with ⟨h2, _⟩ | ⟨g', cap', cur, h2, _⟩
      · cases h2
      · cases h2; rfl
    rw [hq] at h ⊢
    have := CurAt.of_own h
    refine ⟨h.1, .inr ⟨q.block, 0, rfl, this.1.lt, fun i u hu => ?_⟩⟩
    rw [Nat.zero_add]
    exact this.1.cell i u hu

theorem own_at {e : TypeId} {size : Nat} {w : World} {base n cap : Nat} {q : Addr} {cs : List Value} (h : w.ownsRow base e size (.slice (some q) n cap) n cs) : q = ⟨q.block, 0, none⟩ ∧ base ≤ q.block ∧ q.block < w.heap.size := by
  rcases h.2 with ⟨h2, _⟩ | ⟨g', cap', cur, h2, hb, hg, _⟩
  · cases h2
  · cases h2
    exact ⟨rfl, hb, (Array.getElem?_eq_some_iff.1 hg).1⟩

theorem gb_trans {a b c : World} {r : Option Nat} (h : a.grownBy b r) (k : b.grownBy c r) : a.grownBy c r :=
  ⟨k.os.trans h.os, k.tape.trans h.tape, k.output.trans h.output, Nat.le_trans h.size k.size, fun i hi hn => (k.block i (Nat.lt_of_lt_of_le hi h.size) hn).trans (h.block i hi hn)⟩

theorem hid_keep {w w' : World} {b : Nat} {o : Obj} (h : Hid (w.heap[b]? = some o)) (n : Below w.heap.size w w') : Hid (w'.heap[b]? = some o) := heap_keep h.out n (Array.getElem?_eq_some_iff.1 h.out).1

end Go.Proofs.Ythekickjjaleaac

/- Stores into rows of one's own; a world that has grown but for one block. No program is named here. -/
namespace Go.Proofs.Ythekickjjaleaac
open Go.RowKit
set_option linter.unusedVariables false

theorem own_store {e : TypeId} {size : Nat} {w : World} {base g n cap : Nat} {cs : List Value} (h : w.ownsRow base e size (.slice (some ⟨g, 0, none⟩) n cap) n cs) (j : Nat) (u : Value) :
    (w.setCell ⟨g, j, none⟩ u).ownsRow base e size (.slice (some ⟨g, 0, none⟩) n cap) n (cs.set j u) := by
  obtain ⟨h1, h2⟩ := h
  refine ⟨by simpa using h1, ?_⟩
  rcases h2 with ⟨h2, _⟩ | ⟨g', cap', cur, h2, hb, hg, hc1, hc2, hc3, ht⟩
  · cases h2
  · cases h2
    refine .inr ⟨g, cap, cur.setIfInBounds j u, rfl, hb, by simp [World.setCell, Array.getElem?_modify, hg], hc1, hc2, by simpa using hc3, ?_⟩
    subst ht
    rw [Array.toList_setIfInBounds, List.take_set]

theorem own_cell {e : TypeId} {size : Nat} {w : World} {base g n cap : Nat} {cs : List Value} (h : w.ownsRow base e size (.slice (some ⟨g, 0, none⟩) n cap) n cs) (j : Nat) (u : Value) (hj : cs[j]? = some u) : w.cell? ⟨g, j, none⟩ = some u :=
  (CurAt.of_own h).1.cell j u hj

theorem own_free {e : TypeId} {size : Nat} {w : World} {base g n cap : Nat} {cs : List Value} (h : w.ownsRow base e size (.slice (some ⟨g, 0, none⟩) n cap) n cs) (j : Nat) : w.frozen? ⟨g, j, none⟩ = false :=
  (CurAt.of_own h).1.free j

end Go.Proofs.Ythekickjjaleaac

/- The specification's walk, whole: l3From, Walk. -/
namespace Go.Proofs.Ythekickjjaleaac
open Go.RowKit
set_option linter.unusedVariables false

theorem fromM_len (zs : List Int) (va : Int) : ∀ (l : Nat) (n : Int), (fromM zs va l n).2.2.2.length ≤ l + 1
  | 0, n => by
    unfold fromM
    split
    · simp
    · split
      · simp
      · split <;> simp
  | l + 1, n => by
    unfold fromM
    split
    · simp
    · split
      · simp
      · split
        · simp
        · have := fromM_len zs va l (ppnM (rdV zs (64 * n + 8 * idxM va ((l + 1 : Nat) : Int)) 8))
          simp only [List.length_cons]
          omega

end Go.Proofs.Ythekickjjaleaac

/- The specification's plain translation: l3On, l3Asid, the faults, l3Leaf, l3Answer, PlainTranslate. -/
namespace Go.Proofs.Ythekickjjaleaac
open Go.RowKit
set_option linter.unusedVariables false
attribute [local go_sem ↓] Go.wp_at_zero Go.wp_at_succ

theorem fromM_bd (zs : List Int) (va : Int) (h : ∀ i : Nat, 0 ≤ zs[i]?.getD 0 ∧ zs[i]?.getD 0 ≤ 255) : ∀ (l : Nat) (n : Int), l ≤ 2 →
    0 ≤ (fromM zs va l n).2.2.1 ∧ (fromM zs va l n).2.2.1 ≤ 18446744073709551615 ∧ 0 ≤ (fromM zs va l n).2.1 ∧ (fromM zs va l n).2.1 ≤ 2
  | 0, n, hl => by
    unfold fromM
    have hb := rdV_bd zs (64 * n + 8 * idxM va ((0 : Nat) : Int)) 8 (by omega) h
    split
    · simp
    · split
      · simp
      · split
        · exact ⟨hb.1, hb.2, by simp, by simp⟩
        · simp
  | l + 1, n, hl => by
    unfold fromM
    have hb := rdV_bd zs (64 * n + 8 * idxM va ((l + 1 : Nat) : Int)) 8 (by omega) h
    split
    · exact ⟨by simp, by simp, by show (0 : Int) ≤ ((l + 1 : Nat) : Int); omega, by show ((l + 1 : Nat) : Int) ≤ 2; omega⟩
    · split
      · exact ⟨by simp, by simp, by show (0 : Int) ≤ ((l + 1 : Nat) : Int); omega, by show ((l + 1 : Nat) : Int) ≤ 2; omega⟩
      · split
        · exact ⟨hb.1, hb.2, by show (0 : Int) ≤ ((l + 1 : Nat) : Int); omega, by show ((l + 1 : Nat) : Int) ≤ 2; omega⟩
        · exact fromM_bd zs va h l _ (by omega)

theorem walkM_bd (zs : List Int) (root va : Int) (h : ∀ i : Nat, 0 ≤ zs[i]?.getD 0 ∧ zs[i]?.getD 0 ≤ 255) :
    0 ≤ (walkM zs root va).2.2.1 ∧ (walkM zs root va).2.2.1 ≤ 18446744073709551615 ∧ 0 ≤ (walkM zs root va).2.1 ∧ (walkM zs root va).2.1 ≤ 2 := by
  unfold walkM
  split
  · simp
  · exact fromM_bd zs va h 2 _ (by omega)

end Go.Proofs.Ythekickjjaleaac
