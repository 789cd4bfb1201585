/- The specification's chapter 2, more: Granted, PhysOf. -/
import Derived.Test.YthekickjjaleaabSpec2
namespace Go.Proofs.Ythekickjjaleaab
open Go.RowKit
set_option linter.unusedVariables false

set_option maxHeartbeats 1600000 in
theorem specGranted_at (pte kind mode : Int) (sum mxr : Bool) (w : World) (h0 : 0 ≤ pte) (h1 : pte ≤ 18446744073709551615) :
    Calls Try.prog 28 #[.int .u64 pte, .int .i64 kind, .int .i64 mode, .bool sum, .bool mxr] w fun e w' => e = .returned (.bool (grantM pte kind mode sum mxr)) ∧ ∃ n, w' = w.drewN n := by
  go_enter Try.func28, Try.ntmps28
  go_wp2_with fail
  refine (l2Bit_at pte 1 2 w h0 h1 (by omega) (by omega) rfl).mono ?_
  rintro e w' ⟨rfl, n1, rfl⟩
  go_wp2_with fail
  refine (l2Bit_at pte 2 4 _ h0 h1 (by omega) (by omega) rfl).mono ?_
  rintro e w' ⟨rfl, n2, rfl⟩
  go_wp2_with fail
  refine (l2Bit_at pte 3 8 _ h0 h1 (by omega) (by omega) rfl).mono ?_
  rintro e w' ⟨rfl, n3, rfl⟩
  go_wp2_with fail
  refine (l2Bit_at pte 4 16 _ h0 h1 (by omega) (by omega) rfl).mono ?_
  rintro e w' ⟨rfl, n4, rfl⟩
  go_wp2_with fail
  refine (l2Bit_at pte 6 64 _ h0 h1 (by omega) (by omega) rfl).mono ?_
  rintro e w' ⟨rfl, n5, rfl⟩
  go_wp2_with fail
  refine (l2Bit_at pte 7 128 _ h0 h1 (by omega) (by omega) rfl).mono ?_
  rintro e w' ⟨rfl, n6, rfl⟩
  by_cases k0 : kind = 0
  · subst k0
    by_cases m0 : mode = 0
    · subst m0
      go_wp2_with fail
      all_goals (go_ret; exact ⟨ret_bool (by simp_all [grantM]), _, rfl⟩)
    by_cases m1 : mode = 1
    · subst m1
      go_wp2_with fail
      all_goals (go_ret; exact ⟨ret_bool (by simp_all [grantM]), _, rfl⟩)
    · have m0' : (mode == 0) = false := by simpa using m0
      have m1' : (mode == 1) = false := by simpa using m1
      go_wp2_with fail
      all_goals (go_ret; exact ⟨ret_bool (by simp_all [grantM]), _, rfl⟩)
  by_cases k1 : kind = 1
  · subst k1
    by_cases m0 : mode = 0
    · subst m0
      go_wp2_with fail
      all_goals (go_ret; exact ⟨ret_bool (by simp_all [grantM]), _, rfl⟩)
    by_cases m1 : mode = 1
    · subst m1
      go_wp2_with fail
      all_goals (go_ret; exact ⟨ret_bool (by simp_all [grantM]), _, rfl⟩)
    · have m0' : (mode == 0) = false := by simpa using m0
      have m1' : (mode == 1) = false := by simpa using m1
      go_wp2_with fail
      all_goals (go_ret; exact ⟨ret_bool (by simp_all [grantM]), _, rfl⟩)
  by_cases k2 : kind = 2
  · subst k2
    by_cases m0 : mode = 0
    · subst m0
      go_wp2_with fail
      all_goals (go_ret; exact ⟨ret_bool (by simp_all [grantM]), _, rfl⟩)
    by_cases m1 : mode = 1
    · subst m1
      go_wp2_with fail
      all_goals (go_ret; exact ⟨ret_bool (by simp_all [grantM]), _, rfl⟩)
    · have m0' : (mode == 0) = false := by simpa using m0
      have m1' : (mode == 1) = false := by simpa using m1
      go_wp2_with fail
      all_goals (go_ret; exact ⟨ret_bool (by simp_all [grantM]), _, rfl⟩)
  have k0' : (kind == 0) = false := by simpa using k0
  have k1' : (kind == 1) = false := by simpa using k1
  have k2' : (kind == 2) = false := by simpa using k2
  by_cases m0 : mode = 0
  · subst m0
    go_wp2_with fail
    all_goals (go_ret; exact ⟨ret_bool (by simp_all [grantM]), _, rfl⟩)
  by_cases m1 : mode = 1
  · subst m1
    go_wp2_with fail
    all_goals (go_ret; exact ⟨ret_bool (by simp_all [grantM]), _, rfl⟩)
  · have m0' : (mode == 0) = false := by simpa using m0
    have m1' : (mode == 1) = false := by simpa using m1
    go_wp2_with fail
    all_goals (go_ret; exact ⟨ret_bool (by simp_all [grantM]), _, rfl⟩)

set_option maxHeartbeats 800000 in
theorem specPhysOf_at (pte level va : Int) (w : World) (h0 : 0 ≤ pte) (h1 : pte ≤ 18446744073709551615) (hv : 0 ≤ va) (hv' : va ≤ 18446744073709551615) (hl : -9223372036854775808 ≤ level) (hl' : level ≤ 9223372036854775807) :
    Calls Try.prog 30 #[.int .u64 pte, .int .i64 level, .int .u64 va] w fun e w' => e = .returned (.int .u64 (physM pte level va)) ∧ ∃ n, w' = w.drewN n := by
  by_cases hneg : level < 0
  · go_enter Try.func30, Try.ntmps30
    go_wp2_with fail
    go_ret
    exact ⟨ret_u64 (by simp [physM, hneg]), 0, rfl⟩
  by_cases hgt : 2 < level
  · go_enter Try.func30, Try.ntmps30
    go_wp2_with fail
    go_ret
    exact ⟨ret_u64 (by simp [physM, hgt]), 0, rfl⟩
  have hpp : 0 ≤ ppnM pte ∧ ppnM pte < 17592186044416 := ⟨Int.emod_nonneg _ (by omega), Int.emod_lt_of_pos _ (by omega)⟩
  rcases (show level = 0 ∨ level = 1 ∨ level = 2 by omega) with rfl | rfl | rfl
  · go_enter Try.func30, Try.ntmps30
    go_wp2_with fail
    refine (l2Pow_at 6 64 _ (by omega) rfl).mono ?_
    rintro e w' ⟨rfl, rfl⟩
    go_wp2_with fail
    go_quiet ((go_at_call 75; exact Calls.quiet_of (l2Ppn_at pte _ h0 h1)))
    go_wp2_with fail
    go_ret
    exact ⟨ret_u64 (by simp [physM, spanM]), nq, rfl⟩
  · go_enter Try.func30, Try.ntmps30
    go_wp2_with fail
    refine (l2Pow_at 9 512 _ (by omega) rfl).mono ?_
    rintro e w' ⟨rfl, rfl⟩
    go_wp2_with fail
    go_quiet ((go_at_call 75; exact Calls.quiet_of (l2Ppn_at pte _ h0 h1)))
    go_wp2_with fail
    go_ret
    exact ⟨ret_u64 (by simp [physM, spanM]), nq, rfl⟩
  · go_enter Try.func30, Try.ntmps30
    go_wp2_with fail
    refine (l2Pow_at 12 4096 _ (by omega) rfl).mono ?_
    rintro e w' ⟨rfl, rfl⟩
    go_wp2_with fail
    go_quiet ((go_at_call 75; exact Calls.quiet_of (l2Ppn_at pte _ h0 h1)))
    go_wp2_with fail
    go_ret
    exact ⟨ret_u64 (by simp [physM, spanM]), nq, rfl⟩

end Go.Proofs.Ythekickjjaleaab
