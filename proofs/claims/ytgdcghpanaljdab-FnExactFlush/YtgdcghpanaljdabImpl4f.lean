/- The program's spans and fits. -/
import Derived.Test.YtgdcghpanaljdabImpl4a
import Derived.Test.YtgdcghpanaljdabMath4w
namespace Go.Proofs.Ytgdcghpanaljdab
open Go.RowKit
set_option linter.unusedVariables false

theorem spans_any (lv tg asd va : Int) (gl : Bool) (w : World) (hl : lv = 0 ∨ lv = 1 ∨ lv = 2) (hv0 : 0 ≤ va) (hv1 : va ≤ 18446744073709551615) :
    Calls Try.prog 148 #[.agg #[.int .i64 lv, .int .u64 tg, .int .u64 asd, .bool gl], .int .u64 va] w fun e w' => e = .returned (.bool (tg == tagM va lv)) ∧ Below w.heap.size w w' := by
  have n1 := (Below.refl w.heap.size w).alloc (Nat.le_refl _) (Obj.cells #[.int .i64 lv, .int .u64 tg, .int .u64 asd, .bool gl] 165)
  obtain ⟨tm, htm⟩ : ∃ tm, tagM va lv = tm := ⟨_, rfl⟩
  have HT : Hid (∀ w, Calls Try.prog 154 #[.int .u64 va, .int .i64 lv] w fun e w' => e = .returned (.int .u64 tm) ∧ ∃ n, w' = w.drewN n) := fun w => by
    have := tag_at va lv w hv0 hv1 hl
    rw [htm] at this
    exact this
  rw [htm]
  clear htm
  go_enter Try.func148, Try.ntmps148
  go_wp2_with fail
  go_quiet ((go_at_call 154; exact Calls.quiet_of (HT.out _)))
  go_wp2_with fail
  go_ret
  exact ⟨rfl, below_drewN n1 nq⟩

theorem fits_any (lv tg asd va asid : Int) (gl : Bool) (w : World) (hl : lv = 0 ∨ lv = 1 ∨ lv = 2) (hv0 : 0 ≤ va) (hv1 : va ≤ 18446744073709551615) :
    Calls Try.prog 155 #[.agg #[.int .i64 lv, .int .u64 tg, .int .u64 asd, .bool gl], .int .u64 va, .int .u64 asid] w fun e w' => e = .returned (.bool ((tg == tagM va lv) && (gl || asd == asid))) ∧ Below w.heap.size w w' := by
  have n1 := (Below.refl w.heap.size w).alloc (Nat.le_refl _) (Obj.cells #[.int .i64 lv, .int .u64 tg, .int .u64 asd, .bool gl] 165)
  have H1 : Hid ((w.alloc (Obj.cells #[.int .i64 lv, .int .u64 tg, .int .u64 asd, .bool gl] 165)).heap[w.heap.size]? = some (.cells #[.int .i64 lv, .int .u64 tg, .int .u64 asd, .bool gl] 165 (0, 0))) := heap_alloc_new w _
  obtain ⟨sb, hsb⟩ : ∃ sb, (tg == tagM va lv) = sb := ⟨_, rfl⟩
  have HS : Hid (∀ w, Calls Try.prog 148 #[.agg #[.int .i64 lv, .int .u64 tg, .int .u64 asd, .bool gl], .int .u64 va] w fun e w' => e = .returned (.bool sb) ∧ Below w.heap.size w w') := fun w => by
    have := spans_any lv tg asd va gl w hl hv0 hv1
    rw [hsb] at this
    exact this
  rw [hsb]
  clear hsb
  cases sb <;> cases gl
  all_goals
    go_enter Try.func155, Try.ntmps155
    go_wp2_with fail
    generalize hv1 : w.alloc _ = v1 at n1 H1 ⊢
    refine (HS.out v1).mono ?_
    rintro e v2 ⟨rfl, n2⟩
    have K1 := heap_keep H1.out n2 (Array.getElem?_eq_some_iff.1 H1.out).1
    obtain ⟨⟨x0, x1, x2, x3⟩, _, _, _, _⟩ := four_cells K1
    have A2 := Below.step n1 n2 (Nat.le_refl _)
    go_wp2_with fail
    go_ret
    exact ⟨ret_bool (by simp), A2⟩

end Go.Proofs.Ytgdcghpanaljdab
