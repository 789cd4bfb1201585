/- The program's setOf, for one kind of cache. Written by mk4.py. -/
import Derived.Test.YthekickjjaleaabSlotP
namespace Go.Proofs.Ythekickjjaleaab
open Go.RowKit
set_option linter.unusedVariables false

theorem setOfP_at (b o : Nat) (sets tag : Int) (w : World) (hs : sets = 1 ∨ sets = 2 ∨ sets = 4 ∨ sets = 8) (c0 : w.cell? ⟨b, o, none⟩ = some (.int .i64 sets)) (ht : 0 ≤ tag) (ht1 : tag ≤ 18446744073709551615) :
    Calls Try.prog 135 #[.pointer (some ⟨b, o, none⟩), .int .u64 tag] w fun e w' => e = .returned (.int .i64 (tag % sets)) ∧ w' = w := by
  rcases hs with rfl | rfl | rfl | rfl
  all_goals
    go_enter Try.func135, Try.ntmps135
    go_wp2_with fail
    go_ret
    exact ⟨ret_i64 (by omega), rfl⟩

end Go.Proofs.Ythekickjjaleaab
