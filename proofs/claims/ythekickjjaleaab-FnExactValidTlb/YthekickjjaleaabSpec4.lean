/- The specification's chapter 4: l4Tag, l4GoodEntry. -/
import Derived.Test.YthekickjjaleaabSpec3p
import Derived.Test.YthekickjjaleaabMath4
namespace Go.Proofs.Ythekickjjaleaab
open Go.RowKit
set_option linter.unusedVariables false

/-- The cells of an entry. -/
def entC (e : EntM) : List Value := [.bool e.valid, .int .i64 e.level, .int .u64 e.tag, .int .u64 e.asid, .bool e.glob, .int .u64 e.pte]
def entV (e : EntM) : Value := .agg #[.bool e.valid, .int .i64 e.level, .int .u64 e.tag, .int .u64 e.asid, .bool e.glob, .int .u64 e.pte]

theorem l4Tag_at (va level : Int) (w : World) (h0 : 0 ≤ va) (h1 : va ≤ 18446744073709551615) (hl : 0 ≤ level) (hl' : level ≤ 2) :
    Calls Try.prog 139 #[.int .u64 va, .int .i64 level] w fun e w' => e = .returned (.int .u64 (tagM va level)) ∧ ∃ n, w' = w.drewN n := by
  rcases (show level = 0 ∨ level = 1 ∨ level = 2 by omega) with rfl | rfl | rfl
  · go_enter Try.func139, Try.ntmps139
    go_wp2_with fail
    refine (l2Bits_at va 6 14 64 512 w h0 h1 (by omega) (by omega) (by omega) (by omega) rfl rfl).mono ?_
    rintro e w' ⟨rfl, nq, rfl⟩
    go_wp2_with fail
    go_ret
    exact ⟨rfl, nq, rfl⟩
  · go_enter Try.func139, Try.ntmps139
    go_wp2_with fail
    refine (l2Bits_at va 9 14 512 64 w h0 h1 (by omega) (by omega) (by omega) (by omega) rfl rfl).mono ?_
    rintro e w' ⟨rfl, nq, rfl⟩
    go_wp2_with fail
    go_ret
    exact ⟨rfl, nq, rfl⟩
  · go_enter Try.func139, Try.ntmps139
    go_wp2_with fail
    refine (l2Bits_at va 12 14 4096 8 w h0 h1 (by omega) (by omega) (by omega) (by omega) rfl rfl).mono ?_
    rintro e w' ⟨rfl, nq, rfl⟩
    go_wp2_with fail
    go_ret
    exact ⟨rfl, nq, rfl⟩

set_option maxHeartbeats 1600000 in
theorem l4GoodEntry_any (x : EntM) (p : Bool) (w : World) (hx : entOk x) :
    Calls Try.prog 94 #[entV x, .bool p] w fun e w' => e = .returned (.bool (goodEntM x p)) ∧ Below w.heap.size w w' := by
  obtain ⟨v, lv, tg, asd, gl, pt⟩ := x
  obtain ⟨⟨a1, a2⟩, ⟨b1, b2⟩, ⟨c1, c2⟩, d1, d2⟩ := hx
  simp only at a1 a2 b1 b2 c1 c2 d1 d2
  unfold entV goodEntM
  simp only
  have n1 := (Below.refl w.heap.size w).alloc (Nat.le_refl _) (Obj.cells #[.bool v, .int .i64 lv, .int .u64 tg, .int .u64 asd, .bool gl, .int .u64 pt] 75)
  cases v
  · cases p
    all_goals
      go_enter Try.func94, Try.ntmps94
      go_wp2_with fail
      go_quiet (fail)
      go_wp2_with fail
      go_ret
      exact ⟨ret_bool (by simp), below_drewN n1 nq⟩
  by_cases h0n : ¬ (0 ≤ lv)
  · have h0 : ¬ (0 ≤ lv) := h0n
    have h0' : decide (0 ≤ lv) = false := by simpa using h0
    cases p
    all_goals
      go_enter Try.func94, Try.ntmps94
      go_wp2_with fail
      go_quiet (fail)
      go_wp2_with fail
      go_ret
      exact ⟨ret_bool (by simp [h0']), below_drewN n1 nq⟩
  have h0 : 0 ≤ lv := Decidable.not_not.1 h0n
  clear h0n
  by_cases h2n : ¬ (lv ≤ 2)
  · have h2 : ¬ (lv ≤ 2) := h2n
    have h2' : decide (lv ≤ 2) = false := by simpa using h2
    cases p
    all_goals
      go_enter Try.func94, Try.ntmps94
      go_wp2_with fail
      go_quiet (fail)
      go_wp2_with fail
      go_ret
      exact ⟨ret_bool (by simp [h2']), below_drewN n1 nq⟩
  have h2 : lv ≤ 2 := Decidable.not_not.1 h2n
  clear h2n
  obtain ⟨g5, hg5⟩ : ∃ g5, bitB pt 32 = g5 := ⟨_, rfl⟩
  obtain ⟨kd, hkd⟩ : ∃ kd, kindM pt lv = kd := ⟨_, rfl⟩
  rw [hg5, hkd]
  have HC5 : Hid (∀ w : World, Calls Try.prog 74 #[.int .u64 pt, .int .i64 5] w fun e w' => e = .returned (.bool g5) ∧ ∃ n, w' = w.drewN n) := fun w => by
    have := l2Bit_at pt 5 32 w d1 d2 (by omega) (by omega) rfl
    rw [hg5] at this
    exact this
  have HC6 : Hid (∀ w : World, Calls Try.prog 26 #[.int .u64 pt, .int .i64 lv] w fun e w' => e = .returned (.int .i64 kd) ∧ ∃ n, w' = w.drewN n) := fun w => by
    have := specPteKind_at pt lv w d1 d2 a1 a2
    rw [hkd] at this
    exact this
  clear hg5 hkd
  rcases (show lv = 0 ∨ lv = 1 ∨ lv = 2 by omega) with rfl | rfl | rfl
  · by_cases htn : ¬ (tg < 512)
    · have ht : ¬ (tg < 512) := htn
      have ht' : decide (tg < 512) = false := by simpa using ht
      cases p
      all_goals
        go_enter Try.func94, Try.ntmps94
        go_wp2_with fail
        go_quiet (first
        | (go_at_call 72; exact Calls.quiet_of_same (l2Pow_at 9 512 _ (by omega) rfl))
        | (go_at_call 74; exact Calls.quiet_of (HC5.out _))
        | (go_at_call 26; exact Calls.quiet_of (HC6.out _)))
        go_wp2_with fail
        go_ret
        exact ⟨ret_bool (by simp [pow9, wantM, ht']), below_drewN n1 nq⟩
    have ht : tg < 512 := Decidable.not_not.1 htn
    clear htn
    by_cases han : ¬ (asd ≤ 65535)
    · have ha : ¬ (asd ≤ 65535) := han
      have ha' : decide (asd ≤ 65535) = false := by simpa using ha
      cases p
      all_goals
        go_enter Try.func94, Try.ntmps94
        go_wp2_with fail
        go_quiet (first
        | (go_at_call 72; exact Calls.quiet_of_same (l2Pow_at 9 512 _ (by omega) rfl))
        | (go_at_call 74; exact Calls.quiet_of (HC5.out _))
        | (go_at_call 26; exact Calls.quiet_of (HC6.out _)))
        go_wp2_with fail
        go_ret
        exact ⟨ret_bool (by simp [pow9, wantM, ht, ha']), below_drewN n1 nq⟩
    have ha : asd ≤ 65535 := Decidable.not_not.1 han
    clear han
    cases p <;> cases gl <;> cases g5
    all_goals
      go_enter Try.func94, Try.ntmps94
      go_wp2_with fail
      go_quiet (first
        | (go_at_call 72; exact Calls.quiet_of_same (l2Pow_at 9 512 _ (by omega) rfl))
        | (go_at_call 74; exact Calls.quiet_of (HC5.out _))
        | (go_at_call 26; exact Calls.quiet_of (HC6.out _)))
      go_wp2_with fail
      go_ret
      exact ⟨ret_bool (by simp [pow9, wantM, ht, ha]), below_drewN n1 nq⟩
  · by_cases htn : ¬ (tg < 64)
    · have ht : ¬ (tg < 64) := htn
      have ht' : decide (tg < 64) = false := by simpa using ht
      cases p
      all_goals
        go_enter Try.func94, Try.ntmps94
        go_wp2_with fail
        go_quiet (first
        | (go_at_call 72; exact Calls.quiet_of_same (l2Pow_at 6 64 _ (by omega) rfl))
        | (go_at_call 74; exact Calls.quiet_of (HC5.out _))
        | (go_at_call 26; exact Calls.quiet_of (HC6.out _)))
        go_wp2_with fail
        go_ret
        exact ⟨ret_bool (by simp [pow9, wantM, ht']), below_drewN n1 nq⟩
    have ht : tg < 64 := Decidable.not_not.1 htn
    clear htn
    by_cases han : ¬ (asd ≤ 65535)
    · have ha : ¬ (asd ≤ 65535) := han
      have ha' : decide (asd ≤ 65535) = false := by simpa using ha
      cases p
      all_goals
        go_enter Try.func94, Try.ntmps94
        go_wp2_with fail
        go_quiet (first
        | (go_at_call 72; exact Calls.quiet_of_same (l2Pow_at 6 64 _ (by omega) rfl))
        | (go_at_call 74; exact Calls.quiet_of (HC5.out _))
        | (go_at_call 26; exact Calls.quiet_of (HC6.out _)))
        go_wp2_with fail
        go_ret
        exact ⟨ret_bool (by simp [pow9, wantM, ht, ha']), below_drewN n1 nq⟩
    have ha : asd ≤ 65535 := Decidable.not_not.1 han
    clear han
    cases p <;> cases gl <;> cases g5
    all_goals
      go_enter Try.func94, Try.ntmps94
      go_wp2_with fail
      go_quiet (first
        | (go_at_call 72; exact Calls.quiet_of_same (l2Pow_at 6 64 _ (by omega) rfl))
        | (go_at_call 74; exact Calls.quiet_of (HC5.out _))
        | (go_at_call 26; exact Calls.quiet_of (HC6.out _)))
      go_wp2_with fail
      go_ret
      exact ⟨ret_bool (by simp [pow9, wantM, ht, ha]), below_drewN n1 nq⟩
  · by_cases htn : ¬ (tg < 8)
    · have ht : ¬ (tg < 8) := htn
      have ht' : decide (tg < 8) = false := by simpa using ht
      cases p
      all_goals
        go_enter Try.func94, Try.ntmps94
        go_wp2_with fail
        go_quiet (first
        | (go_at_call 72; exact Calls.quiet_of_same (l2Pow_at 3 8 _ (by omega) rfl))
        | (go_at_call 74; exact Calls.quiet_of (HC5.out _))
        | (go_at_call 26; exact Calls.quiet_of (HC6.out _)))
        go_wp2_with fail
        go_ret
        exact ⟨ret_bool (by simp [pow9, wantM, ht']), below_drewN n1 nq⟩
    have ht : tg < 8 := Decidable.not_not.1 htn
    clear htn
    by_cases han : ¬ (asd ≤ 65535)
    · have ha : ¬ (asd ≤ 65535) := han
      have ha' : decide (asd ≤ 65535) = false := by simpa using ha
      cases p
      all_goals
        go_enter Try.func94, Try.ntmps94
        go_wp2_with fail
        go_quiet (first
        | (go_at_call 72; exact Calls.quiet_of_same (l2Pow_at 3 8 _ (by omega) rfl))
        | (go_at_call 74; exact Calls.quiet_of (HC5.out _))
        | (go_at_call 26; exact Calls.quiet_of (HC6.out _)))
        go_wp2_with fail
        go_ret
        exact ⟨ret_bool (by simp [pow9, wantM, ht, ha']), below_drewN n1 nq⟩
    have ha : asd ≤ 65535 := Decidable.not_not.1 han
    clear han
    cases p <;> cases gl <;> cases g5
    all_goals
      go_enter Try.func94, Try.ntmps94
      go_wp2_with fail
      go_quiet (first
        | (go_at_call 72; exact Calls.quiet_of_same (l2Pow_at 3 8 _ (by omega) rfl))
        | (go_at_call 74; exact Calls.quiet_of (HC5.out _))
        | (go_at_call 26; exact Calls.quiet_of (HC6.out _)))
      go_wp2_with fail
      go_ret
      exact ⟨ret_bool (by simp [pow9, wantM, ht, ha]), below_drewN n1 nq⟩

end Go.Proofs.Ythekickjjaleaab
