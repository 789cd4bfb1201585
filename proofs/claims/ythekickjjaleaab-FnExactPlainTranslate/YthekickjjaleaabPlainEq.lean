/- The laws' helpers of the plain translation: toCtx, eqTrans. -/
import Derived.Test.YthekickjjaleaabImpl3q
import Derived.Deep.DeepCutAuto
namespace Go.Proofs.Ythekickjjaleaab
open Go.RowKit
set_option linter.unusedVariables false
attribute [local go_sem ↓] Go.wp_at_zero Go.wp_at_succ

theorem toByteS_ex (a : Option Addr) (len cap : Nat) (zs : List Int) (w : World) (h : Byt w a len zs) (hl : len ≤ 1048576) :
    Calls Try.prog 16 #[.slice a len cap] w fun e w' => ∃ g, e = .returned (.slice (some ⟨g, 0, none⟩) len len) ∧ w.heap.size ≤ g ∧ Blk 5 w' g zs ∧ Below w.heap.size w w' :=
  (toByteS_any a len cap zs w h hl).mono fun e w' ⟨h1, h2, h3⟩ => ⟨_, h1, Nat.le_refl _, h2, h3⟩

set_option maxHeartbeats 400000 in
theorem toCtx_any (mode : Int) (sum mxr : Bool) (satp : Int) (w : World) :
    Calls Try.prog 38 #[.agg #[.int .i64 mode, .bool sum, .bool mxr, .int .u64 satp]] w fun e w' => e = .returned (ctxV mode sum mxr satp) ∧ Below w.heap.size w w' := by
  unfold ctxV
  go_enter Try.func38, Try.ntmps38
  go_wp2_with fail
  exact bodyPost_ret (v := .agg #[.int .i64 mode, .bool sum, .bool mxr, .int .u64 satp]) (by simp [results, Try.results38, go_sem]) rfl ⟨rfl, (((Below.refl _ _).alloc (Nat.le_refl _) _).alloc (by simp) _).alloc (by simp; omega) _⟩

theorem eqTrans_same (r : Int × Int) (w : World) :
    Calls Try.prog 40 #[transV r, transV r] w fun e w' => e = .returned (.bool true) ∧ Below w.heap.size w w' := by
  unfold transV
  go_enter Try.func40, Try.ntmps40
  go_wp2_with fail
  go_ret
  exact ⟨rfl, ((Below.refl _ _).alloc (Nat.le_refl _) _).alloc (by simp) _⟩

end Go.Proofs.Ythekickjjaleaab
