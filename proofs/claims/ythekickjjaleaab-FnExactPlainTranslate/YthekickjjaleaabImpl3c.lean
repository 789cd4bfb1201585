/- The program's faults: error values of two types, told apart by a type switch; the causes. -/
import Derived.Test.YthekickjjaleaabImpl3
namespace Go.Proofs.Ythekickjjaleaab
open Go.RowKit
set_option linter.unusedVariables false

theorem ta_pp (w : World) : (Instr.typeAssert (.iface 156 (.agg #[])) 106 156 true).run Try.prog w = .ok (.tuple #[.agg #[], .bool true]) w := by kernel_rfl
theorem ta_ap (w : World) : (Instr.typeAssert (.iface 158 (.agg #[])) 106 156 true).run Try.prog w = .ok (.tuple #[.agg #[], .bool false]) w := by kernel_rfl
theorem ta_aa (w : World) : (Instr.typeAssert (.iface 158 (.agg #[])) 106 158 true).run Try.prog w = .ok (.tuple #[.agg #[], .bool true]) w := by kernel_rfl
theorem ta_np (w : World) : (Instr.typeAssert .nilIface 106 156 true).run Try.prog w = .ok (.tuple #[.agg #[], .bool false]) w := by kernel_rfl
theorem ta_na (w : World) : (Instr.typeAssert .nilIface 106 158 true).run Try.prog w = .ok (.tuple #[.agg #[], .bool false]) w := by kernel_rfl

/-- The error value of a code: none, page, access. -/
def faultV (code : Int) : Value := if code = 1 then .nilIface else if code = 2 then .iface 156 (.agg #[]) else .iface 158 (.agg #[])

theorem codeOf_at (c : Int) (w : World) (hc : c = 1 ∨ c = 2 ∨ c = 3) : Calls Try.prog 84 #[faultV c] w fun e w' => e = .returned (.int .i64 c) ∧ w' = w := by
  have t1 := ta_pp
  have t2 := ta_ap
  have t3 := ta_aa
  have t4 := ta_np
  have t5 := ta_na
  rcases hc with rfl | rfl | rfl
  all_goals
    simp only [faultV, if_pos, Int.reduceEq]
    go_enter Try.func84, Try.ntmps84
    go_wp2_with fail
    go_ret
    exact ⟨rfl, rfl⟩

theorem pageCause_at (kind : Int) (w : World) : Calls Try.prog 131 #[.int .i64 kind] w fun e w' => e = .returned (.int .i64 (pageM kind)) ∧ w' = w := by
  by_cases k0 : kind = 0
  · subst k0
    go_enter Try.func131, Try.ntmps131
    go_wp2_with fail
    go_ret
    exact ⟨rfl, rfl⟩
  have k0' : (kind == 0) = false := by simpa using k0
  by_cases k1 : kind = 1
  · subst k1
    go_enter Try.func131, Try.ntmps131
    go_wp2_with fail
    go_ret
    exact ⟨rfl, rfl⟩
  have k1' : (kind == 1) = false := by simpa using k1
  have HE : Hid (pageM kind = 15) := by show _ = _; rw [pageM, if_neg k0, if_neg k1]
  clear k0 k1
  go_enter Try.func131, Try.ntmps131
  go_wp2_with fail
  go_ret
  exact ⟨ret_i64 HE.out.symm, rfl⟩

theorem accessCause_at (kind : Int) (w : World) : Calls Try.prog 132 #[.int .i64 kind] w fun e w' => e = .returned (.int .i64 (accessM kind)) ∧ w' = w := by
  by_cases k0 : kind = 0
  · subst k0
    go_enter Try.func132, Try.ntmps132
    go_wp2_with fail
    go_ret
    exact ⟨rfl, rfl⟩
  have k0' : (kind == 0) = false := by simpa using k0
  by_cases k1 : kind = 1
  · subst k1
    go_enter Try.func132, Try.ntmps132
    go_wp2_with fail
    go_ret
    exact ⟨rfl, rfl⟩
  have k1' : (kind == 1) = false := by simpa using k1
  have HE : Hid (accessM kind = 7) := by show _ = _; rw [accessM, if_neg k0, if_neg k1]
  clear k0 k1
  go_enter Try.func132, Try.ntmps132
  go_wp2_with fail
  go_ret
  exact ⟨ret_i64 HE.out.symm, rfl⟩

theorem causeOf_at (c kind : Int) (w : World) (hc : c = 1 ∨ c = 2 ∨ c = 3) :
    Calls Try.prog 92 #[faultV c, .int .i64 kind] w fun e w' => e = .returned (.int .i64 (if c = 1 then 0 else if c = 2 then pageM kind else accessM kind)) ∧ w' = w := by
  have t1 := ta_pp
  have t2 := ta_ap
  have t3 := ta_aa
  have t4 := ta_np
  have t5 := ta_na
  rcases hc with rfl | rfl | rfl
  all_goals
    simp only [faultV, if_pos, Int.reduceEq]
    go_enter Try.func92, Try.ntmps92
    go_wp2_with (first
      | (go_at_call 131; refine (pageCause_at kind _).mono ?_; rintro e w' ⟨rfl, rfl⟩)
      | (go_at_call 132; refine (accessCause_at kind _).mono ?_; rintro e w' ⟨rfl, rfl⟩))
    go_ret
    exact ⟨rfl, rfl⟩

end Go.Proofs.Ythekickjjaleaab
