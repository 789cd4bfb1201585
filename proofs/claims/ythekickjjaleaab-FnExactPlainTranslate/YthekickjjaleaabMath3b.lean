/- Plain mathematics of chapter 3: the codes of walks. -/
import Derived.Test.YthekickjjaleaabMath3
namespace Go.Proofs.Ythekickjjaleaab
set_option linter.unusedVariables false

theorem fromM_code (zs : List Int) (va : Int) : ∀ (l : Nat) (n : Int), (fromM zs va l n).1 = 1 ∨ (fromM zs va l n).1 = 2 ∨ (fromM zs va l n).1 = 3
  | 0, n => by
    unfold fromM
    split
    · simp
    · split
      · simp
      · split <;> simp
  | l + 1, n => by
    unfold fromM
    split
    · simp
    · split
      · simp
      · split
        · simp
        · exact fromM_code zs va l _

theorem walkM_code (zs : List Int) (root va : Int) : (walkM zs root va).1 = 1 ∨ (walkM zs root va).1 = 2 ∨ (walkM zs root va).1 = 3 := by
  unfold walkM
  split
  · simp
  · exact fromM_code zs va 2 _

end Go.Proofs.Ythekickjjaleaab
