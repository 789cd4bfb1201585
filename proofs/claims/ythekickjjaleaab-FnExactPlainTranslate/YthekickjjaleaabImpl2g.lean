/- The program's chapter 2, more: Granted, PhysOf, the index of a level. -/
import Derived.Test.YthekickjjaleaabImpl2
import Derived.Test.YthekickjjaleaabMath3
namespace Go.Proofs.Ythekickjjaleaab
open Go.RowKit
set_option linter.unusedVariables false

def allowsKindM (x kind : Int) (mxr : Bool) : Bool := if kind = 0 then bitB x 8 else if kind = 1 then bitB x 2 || (mxr && bitB x 8) else if kind = 2 then bitB x 4 else false

theorem allowsKind_at (x kind : Int) (mxr : Bool) (w : World) (h0 : 0 ≤ x) (h1 : x ≤ 18446744073709551615) :
    Calls Try.prog 77 #[.int .u64 x, .int .i64 kind, .bool mxr] w fun e w' => e = .returned (.bool (allowsKindM x kind mxr)) ∧ w' = w := by
  have HR : Hid (anyB x 2 = bitB x 2) := anyB_bit 1 x 2 rfl (by omega) h0 h1
  have HW : Hid (anyB x 4 = bitB x 4) := anyB_bit 2 x 4 rfl (by omega) h0 h1
  have HX : Hid (anyB x 8 = bitB x 8) := anyB_bit 3 x 8 rfl (by omega) h0 h1
  by_cases k0 : kind = 0
  · subst k0
    go_enter Try.func77, Try.ntmps77
    go_wp2_with (go_at_call 118; refine (hasAny_at x _ _).mono ?_; rintro e w' ⟨rfl, rfl⟩; rw [HX.out])
    go_ret
    exact ⟨rfl, rfl⟩
  have k0' : (kind == 0) = false := by simpa using k0
  by_cases k1 : kind = 1
  · subst k1
    cases hr : bitB x 2 <;> cases mxr
    all_goals
      go_enter Try.func77, Try.ntmps77
      go_wp2_with (go_at_call 118; refine (hasAny_at x _ _).mono ?_; rintro e w' ⟨rfl, rfl⟩; first | rw [HR.out, hr] | rw [HX.out])
      go_ret
      exact ⟨ret_bool (by simp [allowsKindM, hr]), rfl⟩
  have k1' : (kind == 1) = false := by simpa using k1
  by_cases k2 : kind = 2
  · subst k2
    go_enter Try.func77, Try.ntmps77
    go_wp2_with (go_at_call 118; refine (hasAny_at x _ _).mono ?_; rintro e w' ⟨rfl, rfl⟩; rw [HW.out])
    go_ret
    exact ⟨rfl, rfl⟩
  have k2' : (kind == 2) = false := by simpa using k2
  have HE : Hid (allowsKindM x kind mxr = false) := by show _ = _; rw [allowsKindM, if_neg k0, if_neg k1, if_neg k2]
  clear k0 k1 k2
  go_enter Try.func77, Try.ntmps77
  go_wp2_with fail
  go_ret
  exact ⟨ret_bool HE.out.symm, rfl⟩

def allowsModeM (x kind mode : Int) (sum : Bool) : Bool := if mode = 0 then bitB x 16 else if mode = 1 then !bitB x 16 || (sum && kind != 0) else false

theorem allowsMode_at (x kind mode : Int) (sum : Bool) (w : World) (h0 : 0 ≤ x) (h1 : x ≤ 18446744073709551615) :
    Calls Try.prog 78 #[.int .u64 x, .int .i64 kind, .int .i64 mode, .bool sum] w fun e w' => e = .returned (.bool (allowsModeM x kind mode sum)) ∧ w' = w := by
  have HU : Hid (anyB x 16 = bitB x 16) := anyB_bit 4 x 16 rfl (by omega) h0 h1
  by_cases k0 : mode = 0
  · subst k0
    go_enter Try.func78, Try.ntmps78
    go_wp2_with (go_at_call 118; refine (hasAny_at x _ _).mono ?_; rintro e w' ⟨rfl, rfl⟩; rw [HU.out])
    go_ret
    exact ⟨rfl, rfl⟩
  have k0' : (mode == 0) = false := by simpa using k0
  by_cases k1 : mode = 1
  · subst k1
    cases hu : bitB x 16 <;> cases sum
    all_goals
      go_enter Try.func78, Try.ntmps78
      go_wp2_with (go_at_call 118; refine (hasAny_at x _ _).mono ?_; rintro e w' ⟨rfl, rfl⟩; rw [HU.out, hu])
      all_goals
        go_ret
        exact ⟨ret_bool (by simp_all [allowsModeM]), rfl⟩
  have k1' : (mode == 1) = false := by simpa using k1
  have HE : Hid (allowsModeM x kind mode sum = false) := by show _ = _; rw [allowsModeM, if_neg k0, if_neg k1]
  clear k0 k1
  go_enter Try.func78, Try.ntmps78
  go_wp2_with fail
  go_ret
  exact ⟨ret_bool HE.out.symm, rfl⟩

def markedM (x kind : Int) : Bool := bitB x 64 && (kind != 2 || bitB x 128)

theorem marked_at (x kind : Int) (w : World) (h0 : 0 ≤ x) (h1 : x ≤ 18446744073709551615) :
    Calls Try.prog 79 #[.int .u64 x, .int .i64 kind] w fun e w' => e = .returned (.bool (markedM x kind)) ∧ w' = w := by
  have HA : Hid (anyB x 64 = bitB x 64) := anyB_bit 6 x 64 rfl (by omega) h0 h1
  have HD : Hid (anyB x 128 = bitB x 128) := anyB_bit 7 x 128 rfl (by omega) h0 h1
  cases ha : bitB x 64
  · go_enter Try.func79, Try.ntmps79
    go_wp2_with (go_at_call 118; refine (hasAny_at x _ _).mono ?_; rintro e w' ⟨rfl, rfl⟩; rw [HA.out, ha])
    go_ret
    exact ⟨ret_bool (by simp [markedM, ha]), rfl⟩
  · cases hk : (kind != 2)
    · go_enter Try.func79, Try.ntmps79
      go_wp2_with (go_at_call 118; refine (hasAny_at x _ _).mono ?_; rintro e w' ⟨rfl, rfl⟩; first | rw [HA.out, ha] | rw [HD.out])
      go_ret
      exact ⟨ret_bool (by simp [markedM, ha, hk]), rfl⟩
    · go_enter Try.func79, Try.ntmps79
      go_wp2_with (go_at_call 118; refine (hasAny_at x _ _).mono ?_; rintro e w' ⟨rfl, rfl⟩; first | rw [HA.out, ha] | rw [HD.out])
      go_ret
      exact ⟨ret_bool (by simp [markedM, ha, hk]), rfl⟩

theorem grant_parts (x kind mode : Int) (sum mxr : Bool) : grantM x kind mode sum mxr = (allowsKindM x kind mxr && allowsModeM x kind mode sum && markedM x kind) := by
  simp only [grantM, allowsKindM, allowsModeM, markedM]
  by_cases k0 : kind = 0
  · subst k0
    simp only [if_pos]
    cases bitB x 8 <;> cases bitB x 64 <;> simp <;> split <;> simp
  by_cases k1 : kind = 1
  · subst k1
    simp only [if_neg k0, if_pos]
    by_cases m0 : mode = 0
    · subst m0; simp
    by_cases m1 : mode = 1
    · subst m1; simp
    · simp [m0, m1]
  by_cases k2 : kind = 2
  · subst k2
    by_cases m0 : mode = 0
    · subst m0; simp; cases bitB x 64 <;> cases bitB x 128 <;> cases bitB x 4 <;> simp
    by_cases m1 : mode = 1
    · subst m1; simp; cases bitB x 64 <;> cases bitB x 128 <;> cases bitB x 4 <;> cases bitB x 16 <;> cases sum <;> simp
    · simp [m0, m1]
  · simp [k0, k1, k2]

theorem implGranted_at (x kind mode : Int) (sum mxr : Bool) (w : World) (h0 : 0 ≤ x) (h1 : x ≤ 18446744073709551615) :
    Calls Try.prog 29 #[.int .u64 x, .int .i64 kind, .int .i64 mode, .bool sum, .bool mxr] w fun e w' => e = .returned (.bool (grantM x kind mode sum mxr)) ∧ w' = w := by
  rw [grant_parts]
  cases hk : allowsKindM x kind mxr
  · go_enter Try.func29, Try.ntmps29
    go_wp2_with (first
      | (go_at_call 77; refine (allowsKind_at x kind mxr _ h0 h1).mono ?_; rintro e w' ⟨rfl, rfl⟩; rw [hk]))
    go_ret
    exact ⟨ret_bool (by simp), rfl⟩
  cases hm : allowsModeM x kind mode sum
  · go_enter Try.func29, Try.ntmps29
    go_wp2_with (first
      | (go_at_call 77; refine (allowsKind_at x kind mxr _ h0 h1).mono ?_; rintro e w' ⟨rfl, rfl⟩; rw [hk])
      | (go_at_call 78; refine (allowsMode_at x kind mode sum _ h0 h1).mono ?_; rintro e w' ⟨rfl, rfl⟩; rw [hm]))
    go_ret
    exact ⟨ret_bool (by simp), rfl⟩
  · go_enter Try.func29, Try.ntmps29
    go_wp2_with (first
      | (go_at_call 77; refine (allowsKind_at x kind mxr _ h0 h1).mono ?_; rintro e w' ⟨rfl, rfl⟩; rw [hk])
      | (go_at_call 78; refine (allowsMode_at x kind mode sum _ h0 h1).mono ?_; rintro e w' ⟨rfl, rfl⟩; rw [hm])
      | (go_at_call 79; refine (marked_at x kind _ h0 h1).mono ?_; rintro e w' ⟨rfl, rfl⟩))
    go_ret
    exact ⟨ret_bool (by simp), rfl⟩

theorem placeMask_at (level m : Int) (w : World) (h : (level = 0 ∧ m = 63) ∨ (level = 1 ∧ m = 511) ∨ (level = 2 ∧ m = 4095)) :
    Calls Try.prog 120 #[.int .i64 level] w fun e w' => e = .returned (.int .u64 m) ∧ w' = w := by
  rcases h with ⟨rfl, rfl⟩ | ⟨rfl, rfl⟩ | ⟨rfl, rfl⟩
  · go_enter Try.func120, Try.ntmps120
    go_wp2_with (go_at_call 116; refine (lowBits_at 6 63 _ (by omega)).mono ?_; rintro e w' ⟨rfl, rfl⟩)
    go_ret
    exact ⟨rfl, rfl⟩
  · go_enter Try.func120, Try.ntmps120
    go_wp2_with (go_at_call 116; refine (lowBits_at 9 511 _ (by omega)).mono ?_; rintro e w' ⟨rfl, rfl⟩)
    go_ret
    exact ⟨rfl, rfl⟩
  · go_enter Try.func120, Try.ntmps120
    go_wp2_with (go_at_call 116; refine (lowBits_at 12 4095 _ (by omega)).mono ?_; rintro e w' ⟨rfl, rfl⟩)
    go_ret
    exact ⟨rfl, rfl⟩

theorem phys_at (x level va : Int) (w : World) (h0 : 0 ≤ x) (h1 : x ≤ 18446744073709551615) (hl : level = 0 ∨ level = 1 ∨ level = 2) (hv0 : 0 ≤ va) (hv1 : va ≤ 18446744073709551615) :
    Calls Try.prog 81 #[.int .u64 x, .int .i64 level, .int .u64 va] w fun e w' => e = .returned (.int .u64 (physM x level va)) ∧ w' = w := by
  have hpp : 0 ≤ ppnM x ∧ ppnM x < 17592186044416 := ⟨Int.emod_nonneg _ (by omega), Int.emod_lt_of_pos _ (by omega)⟩
  have HP : ∀ w, Hid (Calls Try.prog 121 #[.int .u64 x] w fun e w' => e = .returned (.int .u64 (ppnM x)) ∧ w' = w) := fun w => ppn_at x w h0 h1
  have HE : Hid (physM x level va = ppnM x * 64 / spanM level * spanM level + va % spanM level) := by
    show _ = _
    rw [physM, if_neg (by omega)]
  rw [HE.out]
  clear HE
  generalize ppnM x = p at *
  rcases hl with rfl | rfl | rfl
  · have H : Hid (bits .or .u64 (bits .andNot .u64 (p * 64) 63) (bits .and .u64 va 63) = p * 64 / spanM 0 * spanM 0 + va % spanM 0) :=
      splice_u64 6 (p * 64) va 63 64 rfl rfl (by omega) (by omega) (by omega) hv0 hv1
    go_enter Try.func81, Try.ntmps81
    go_wp2_with (first
      | (go_at_call 121; refine ((HP _).out).mono ?_; rintro e w' ⟨rfl, rfl⟩)
      | (go_at_call 120; refine (placeMask_at 0 63 _ (by omega)).mono ?_; rintro e w' ⟨rfl, rfl⟩))
    go_ret
    exact ⟨ret_u64 H.out, rfl⟩
  · have H : Hid (bits .or .u64 (bits .andNot .u64 (p * 64) 511) (bits .and .u64 va 511) = p * 64 / spanM 1 * spanM 1 + va % spanM 1) :=
      splice_u64 9 (p * 64) va 511 512 rfl rfl (by omega) (by omega) (by omega) hv0 hv1
    go_enter Try.func81, Try.ntmps81
    go_wp2_with (first
      | (go_at_call 121; refine ((HP _).out).mono ?_; rintro e w' ⟨rfl, rfl⟩)
      | (go_at_call 120; refine (placeMask_at 1 511 _ (by omega)).mono ?_; rintro e w' ⟨rfl, rfl⟩))
    go_ret
    exact ⟨ret_u64 H.out, rfl⟩
  · have H : Hid (bits .or .u64 (bits .andNot .u64 (p * 64) 4095) (bits .and .u64 va 4095) = p * 64 / spanM 2 * spanM 2 + va % spanM 2) :=
      splice_u64 12 (p * 64) va 4095 4096 rfl rfl (by omega) (by omega) (by omega) hv0 hv1
    go_enter Try.func81, Try.ntmps81
    go_wp2_with (first
      | (go_at_call 121; refine ((HP _).out).mono ?_; rintro e w' ⟨rfl, rfl⟩)
      | (go_at_call 120; refine (placeMask_at 2 4095 _ (by omega)).mono ?_; rintro e w' ⟨rfl, rfl⟩))
    go_ret
    exact ⟨ret_u64 H.out, rfl⟩

theorem implPhysOf_at (x level va : Int) (w : World) (h0 : 0 ≤ x) (h1 : x ≤ 18446744073709551615) (hv0 : 0 ≤ va) (hv1 : va ≤ 18446744073709551615) :
    Calls Try.prog 31 #[.int .u64 x, .int .i64 level, .int .u64 va] w fun e w' => e = .returned (.int .u64 (physM x level va)) ∧ w' = w := by
  by_cases hlev : 0 ≤ level ∧ level ≤ 2
  · have HK : Hid (decide (0 ≤ level ∧ level ≤ 2) = true) := by show _ = _; simpa using hlev
    have hl : level = 0 ∨ level = 1 ∨ level = 2 := by omega
    clear hlev
    go_enter Try.func31, Try.ntmps31
    go_wp2_with (first
      | (go_at_call 80; refine (knownLevel_at level _).mono ?_; rintro e w' ⟨rfl, rfl⟩; rw [HK.out])
      | (go_at_call 81; refine (phys_at x level va _ h0 h1 hl hv0 hv1).mono ?_; rintro e w' ⟨rfl, rfl⟩))
    go_ret
    exact ⟨rfl, rfl⟩
  · have HK : Hid (decide (0 ≤ level ∧ level ≤ 2) = false) := by show _ = _; simpa using hlev
    have HE : Hid (physM x level va = 0) := by show _ = _; rw [physM, if_pos (by omega)]
    clear hlev
    go_enter Try.func31, Try.ntmps31
    go_wp2_with (go_at_call 80; refine (knownLevel_at level _).mono ?_; rintro e w' ⟨rfl, rfl⟩; rw [HK.out])
    go_ret
    exact ⟨ret_u64 HE.out.symm, rfl⟩

theorem index_at (va level : Int) (w : World) (hv0 : 0 ≤ va) (hv1 : va ≤ 18446744073709551615) (hl : level = 0 ∨ level = 1 ∨ level = 2) :
    Calls Try.prog 158 #[.int .u64 va, .int .i64 level] w fun e w' => e = .returned (.int .u64 (idxM va level)) ∧ ∃ n, w' = w.drewN n := by
  rcases hl with rfl | rfl | rfl
  · have H : Hid (bits .and .u64 (va / 64) 7 = idxM va 0) := mask_u64 3 (va / 64) 7 rfl (by omega) (by omega) (by omega)
    go_enter Try.func158, Try.ntmps158
    go_wp2_with fail
    go_quiet ((go_at_call 116; exact Calls.quiet_of_same (lowBits_at 3 7 _ (by omega))))
    go_wp2_with fail
    go_ret
    exact ⟨ret_u64 H.out, nq, rfl⟩
  · have H : Hid (bits .and .u64 (va / 512) 7 = idxM va 1) := mask_u64 3 (va / 512) 7 rfl (by omega) (by omega) (by omega)
    go_enter Try.func158, Try.ntmps158
    go_wp2_with fail
    go_quiet ((go_at_call 116; exact Calls.quiet_of_same (lowBits_at 3 7 _ (by omega))))
    go_wp2_with fail
    go_ret
    exact ⟨ret_u64 H.out, nq, rfl⟩
  · have H : Hid (bits .and .u64 (va / 4096) 7 = idxM va 2) := mask_u64 3 (va / 4096) 7 rfl (by omega) (by omega) (by omega)
    go_enter Try.func158, Try.ntmps158
    go_wp2_with fail
    go_quiet ((go_at_call 116; exact Calls.quiet_of_same (lowBits_at 3 7 _ (by omega))))
    go_wp2_with fail
    go_ret
    exact ⟨ret_u64 H.out, nq, rfl⟩

end Go.Proofs.Ythekickjjaleaab
