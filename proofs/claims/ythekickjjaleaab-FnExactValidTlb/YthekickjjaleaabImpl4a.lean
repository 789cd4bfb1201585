/- The program's chapter 4: tags, address spaces, what a cache of leaves or of pointers may hold. -/
import Derived.Test.YthekickjjaleaabImpl2
import Derived.Test.YthekickjjaleaabMath4t
namespace Go.Proofs.Ythekickjjaleaab
open Go.RowKit
set_option linter.unusedVariables false

theorem tagMask_at (level : Int) (w : World) (hl : level = 0 ∨ level = 1 ∨ level = 2) :
    Calls Try.prog 153 #[.int .i64 level] w fun e w' => e = .returned (.int .u64 (pow9 level - 1)) ∧ w' = w := by
  rcases hl with rfl | rfl | rfl
  all_goals
    go_enter Try.func153, Try.ntmps153
    go_wp2_with (go_at_call 116; refine (lowBits_at 15 32767 _ (by omega)).mono ?_; rintro e w' ⟨rfl, rfl⟩)
    go_ret
    exact ⟨ret_u64 (by decide), rfl⟩

theorem tag_at (va level : Int) (w : World) (hv0 : 0 ≤ va) (hv1 : va ≤ 18446744073709551615) (hl : level = 0 ∨ level = 1 ∨ level = 2) :
    Calls Try.prog 154 #[.int .u64 va, .int .i64 level] w fun e w' => e = .returned (.int .u64 (tagM va level)) ∧ ∃ n, w' = w.drewN n := by
  rcases hl with rfl | rfl | rfl
  · have H : Hid (bits .and .u64 (va / 64) 511 = tagM va 0) := mask_u64 9 (va / 64) 511 rfl (by omega) (by omega) (by omega)
    go_enter Try.func154, Try.ntmps154
    go_wp2_with fail
    go_quiet ((go_at_call 153; exact Calls.quiet_of_same (tagMask_at 0 _ (by omega))))
    go_wp2_with fail
    go_ret
    exact ⟨ret_u64 H.out, nq, rfl⟩
  · have H : Hid (bits .and .u64 (va / 512) 63 = tagM va 1) := mask_u64 6 (va / 512) 63 rfl (by omega) (by omega) (by omega)
    go_enter Try.func154, Try.ntmps154
    go_wp2_with fail
    go_quiet ((go_at_call 153; exact Calls.quiet_of_same (tagMask_at 1 _ (by omega))))
    go_wp2_with fail
    go_ret
    exact ⟨ret_u64 H.out, nq, rfl⟩
  · have H : Hid (bits .and .u64 (va / 4096) 7 = tagM va 2) := mask_u64 3 (va / 4096) 7 rfl (by omega) (by omega) (by omega)
    go_enter Try.func154, Try.ntmps154
    go_wp2_with fail
    go_quiet ((go_at_call 153; exact Calls.quiet_of_same (tagMask_at 2 _ (by omega))))
    go_wp2_with fail
    go_ret
    exact ⟨ret_u64 H.out, nq, rfl⟩


theorem goodAtL_at (x level : Int) (w : World) (h0 : 0 ≤ x) (h1 : x ≤ 18446744073709551615) :
    Calls Try.prog 178 #[.int .u64 x, .int .i64 level] w fun e w' => e = .returned (.bool (kindM x level == 2)) ∧ w' = w := by
  go_enter Try.func178, Try.ntmps178
  go_wp2_with (go_at_call 76; refine (kind_at x level _ h0 h1).mono ?_; rintro e w' ⟨rfl, rfl⟩)
  go_ret
  exact ⟨ret_bool (by simp), rfl⟩

theorem goodAtP_at (x level : Int) (w : World) (h0 : 0 ≤ x) (h1 : x ≤ 18446744073709551615) :
    Calls Try.prog 176 #[.int .u64 x, .int .i64 level] w fun e w' => e = .returned (.bool (kindM x level == 1)) ∧ w' = w := by
  go_enter Try.func176, Try.ntmps176
  go_wp2_with (go_at_call 76; refine (kind_at x level _ h0 h1).mono ?_; rintro e w' ⟨rfl, rfl⟩)
  go_ret
  exact ⟨ret_bool (by simp), rfl⟩

theorem knownPick_at (k : Int) (w : World) :
    Calls Try.prog 104 #[.int .i64 k] w fun e w' => e = .returned (.bool (decide (0 ≤ k ∧ k ≤ 255))) ∧ w' = w := by
  by_cases h : 0 ≤ k
  · go_enter Try.func104, Try.ntmps104
    go_wp2_with fail
    go_ret
    exact ⟨ret_bool (by simp [h]), rfl⟩
  · go_enter Try.func104, Try.ntmps104
    go_wp2_with fail
    go_ret
    exact ⟨ret_bool (by simp; omega), rfl⟩

end Go.Proofs.Ythekickjjaleaab
