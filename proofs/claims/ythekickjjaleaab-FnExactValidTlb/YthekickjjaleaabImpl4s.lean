/- The program's knownShape. -/
import Derived.Test.YthekickjjaleaabImpl4a
import Derived.Test.YthekickjjaleaabSpec4v
namespace Go.Proofs.Ythekickjjaleaab
open Go.RowKit
set_option linter.unusedVariables false

set_option maxHeartbeats 1600000 in
theorem knownShape_any (sets ways : Int) (a : Option Addr) (n cap : Nat) (w : World) (hn : n ≤ 1048576) (hs : -9223372036854775808 ≤ sets ∧ sets ≤ 9223372036854775807) (hw : -9223372036854775808 ≤ ways ∧ ways ≤ 9223372036854775807) :
    Calls Try.prog 133 #[.agg #[.int .i64 sets, .int .i64 ways, .slice a n cap]] w fun e w' => e = .returned (.bool (decide ((sets = 1 ∨ sets = 2 ∨ sets = 4 ∨ sets = 8) ∧ 1 ≤ ways ∧ ways ≤ 4 ∧ (n : Int) = sets * ways))) ∧ Below w.heap.size w w' := by
  have n1 := (Below.refl w.heap.size w).alloc (Nat.le_refl _) (Obj.cells #[.int .i64 sets, .int .i64 ways, .slice a n cap] 63)
  by_cases h1 : sets = 1 ∨ sets = 2 ∨ sets = 4 ∨ sets = 8
  · by_cases h2 : ¬ (1 ≤ ways)
    · rcases h1 with rfl | rfl | rfl | rfl
      all_goals
        go_enter Try.func133, Try.ntmps133
        go_wp2_with fail
        go_ret
        exact ⟨ret_bool (by simp; omega), n1⟩
    · have h2' := Decidable.not_not.1 h2
      clear h2
      by_cases h3 : ¬ (ways ≤ 4)
      · rcases h1 with rfl | rfl | rfl | rfl
        all_goals
          go_enter Try.func133, Try.ntmps133
          go_wp2_with fail
          go_ret
          exact ⟨ret_bool (by simp; omega), n1⟩
      · have h3' := Decidable.not_not.1 h3
        clear h3
        rcases h1 with rfl | rfl | rfl | rfl
        all_goals
          go_enter Try.func133, Try.ntmps133
          go_wp2_with fail
          go_ret
          exact ⟨ret_bool (by simp [h2', h3']; rfl), n1⟩
  · have h1' := h1
    simp only [not_or] at h1'
    obtain ⟨s1, s2, s4, s8⟩ := h1'
    go_enter Try.func133, Try.ntmps133
    go_wp2_with fail
    go_ret
    exact ⟨ret_bool (by simp [h1]), n1⟩

end Go.Proofs.Ythekickjjaleaab
