/- The specification's l4Covers. -/
import Derived.Test.YthekickjjaleaabSpec4v
import Derived.Test.YthekickjjaleaabMath4b
namespace Go.Proofs.Ythekickjjaleaab
open Go.RowKit
set_option linter.unusedVariables false
attribute [local go_sem ↓] Go.wp_at_zero Go.wp_at_succ

/-- A fence as a value. -/
def fenceV (f : FenceM) : Value := .agg #[.bool f.hasVa, .int .u64 f.va, .bool f.hasAsid, .int .u64 f.asid]

set_option maxHeartbeats 1600000 in
theorem l4Covers_any (f : FenceM) (level tag asid : Int) (glob : Bool) (w : World) (h0 : 0 ≤ f.va) (h1 : f.va ≤ 18446744073709551615) (hl0 : 0 ≤ level) (hl2 : level ≤ 2) :
    Calls Try.prog 110 #[fenceV f, .int .i64 level, .int .u64 tag, .int .u64 asid, .bool glob] w fun e w' => e = .returned (.bool (coversM f level tag asid glob)) ∧ Below w.heap.size w w' := by
  obtain ⟨hv, va, ha, fa⟩ := f
  simp only at h0 h1
  unfold fenceV
  simp only
  have n1 := (Below.refl w.heap.size w).alloc (Nat.le_refl _) (Obj.cells #[.bool hv, .int .u64 va, .bool ha, .int .u64 fa] 82)
  obtain ⟨cn, hcn⟩ : ∃ cn, canonM va = cn := ⟨_, rfl⟩
  obtain ⟨tv, htv⟩ : ∃ tv, tagM va level = tv := ⟨_, rfl⟩
  have HC : Hid (∀ w : World, Calls Try.prog 24 #[.int .u64 va] w fun e w' => e = .returned (.bool cn) ∧ ∃ n, w' = w.drewN n) := fun w => by
    have := specCanonical_at va w h0 h1
    rw [hcn] at this
    exact this
  have HT : Hid (∀ w : World, Calls Try.prog 139 #[.int .u64 va, .int .i64 level] w fun e w' => e = .returned (.int .u64 tv) ∧ ∃ n, w' = w.drewN n) := fun w => by
    have := l4Tag_at va level w h0 h1 hl0 hl2
    rw [htv] at this
    exact this
  obtain ⟨R, hR⟩ : ∃ R, coversM ⟨hv, va, ha, fa⟩ level tag asid glob = R := ⟨_, rfl⟩
  rw [hR]
  have HR : Hid (R = (!(hv && (!cn || tag != tv)) && (!ha || (!glob && asid == fa)))) := by
    show _ = _
    rw [← hR, ← hcn, ← htv]
    rfl
  clear hR hcn htv
  cases hv
  · cases ha <;> cases glob
    all_goals
      go_enter Try.func110, Try.ntmps110
      go_wp2_with fail
      go_ret
      exact ⟨ret_bool (by rw [HR.out]; simp), n1⟩
  · cases cn
    · go_enter Try.func110, Try.ntmps110
      go_wp2_with (go_at_call 24; refine (HC.out _).mono ?_; rintro e w' ⟨rfl, nq, rfl⟩)
      go_ret
      exact ⟨ret_bool (by rw [HR.out]; simp), below_drewN n1 _⟩
    · cases ht : (tag != tv)
      · cases ha <;> cases glob
        all_goals
          go_enter Try.func110, Try.ntmps110
          go_wp2_with (first
            | (go_at_call 24; refine (HC.out _).mono ?_; rintro e w' ⟨rfl, nq, rfl⟩)
            | (go_at_call 139; refine (HT.out _).mono ?_; rintro e w' ⟨rfl, nr, rfl⟩))
          go_ret
          exact ⟨ret_bool (by rw [HR.out, ht]; simp), below_drewN n1 (nq + nr)⟩
      · go_enter Try.func110, Try.ntmps110
        go_wp2_with (first
          | (go_at_call 24; refine (HC.out _).mono ?_; rintro e w' ⟨rfl, nq, rfl⟩)
          | (go_at_call 139; refine (HT.out _).mono ?_; rintro e w' ⟨rfl, nr, rfl⟩))
        go_ret
        exact ⟨ret_bool (by rw [HR.out, ht]; simp), below_drewN n1 (nq + nr)⟩

end Go.Proofs.Ythekickjjaleaab
