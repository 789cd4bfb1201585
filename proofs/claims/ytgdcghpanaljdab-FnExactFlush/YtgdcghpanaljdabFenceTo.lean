/- The law's toFence. -/
import Derived.Test.YtgdcghpanaljdabSpec4f
namespace Go.Proofs.Ytgdcghpanaljdab
open Go.RowKit
set_option linter.unusedVariables false

theorem toFence_any (hv : Bool) (fva : Int) (ha : Bool) (fa : Int) (w : World) :
    Calls Try.prog 55 #[.agg #[.bool hv, .int .u64 fva, .bool ha, .int .u64 fa]] w fun e w' => e = .returned (.agg #[.bool hv, .int .u64 fva, .bool ha, .int .u64 fa]) ∧ Below w.heap.size w w' := by
  go_enter Try.func55, Try.ntmps55
  go_wp2_with fail
  exact bodyPost_ret (v := .agg #[.bool hv, .int .u64 fva, .bool ha, .int .u64 fa]) (by simp [results, Try.results55, go_sem]) rfl ⟨rfl, (((Below.refl _ _).alloc (Nat.le_refl _) _).alloc (by simp) _).alloc (by simp; omega) _⟩

end Go.Proofs.Ytgdcghpanaljdab
