import Derived.Test.YthekickjjaleaabPack02
import Derived.Test.YthekickjjaleaabPack12
import Derived.Test.YthekickjjaleaabPack08
import Derived.Test.YthekickjjaleaabPack11
/- The program's chapter 2: lowBits, canonical, index, the entry's methods, Canonical, PteKind, Granted, PhysOf. -/
namespace Go.Proofs.Ythekickjjaleaab
open Go.RowKit
set_option linter.unusedVariables false

theorem lowBits_at (n m : Int) (w : World) (h : (n = 0 ∧ m = 0) ∨ (n = 3 ∧ m = 7) ∨ (n = 6 ∧ m = 63) ∨ (n = 9 ∧ m = 511) ∨ (n = 12 ∧ m = 4095) ∨ (n = 44 ∧ m = 17592186044415) ∨ (n = 50 ∧ m = 1125899906842623) ∨ (n = 15 ∧ m = 32767) ∨ (n = 16 ∧ m = 65535)) :
    Calls Try.prog 116 #[.int .i64 n] w fun e w' => e = .returned (.int .u64 m) ∧ w' = w := by
  rcases h with ⟨rfl, rfl⟩ | ⟨rfl, rfl⟩ | ⟨rfl, rfl⟩ | ⟨rfl, rfl⟩ | ⟨rfl, rfl⟩ | ⟨rfl, rfl⟩ | ⟨rfl, rfl⟩ | ⟨rfl, rfl⟩ | ⟨rfl, rfl⟩
  all_goals
    go_enter Try.func116, Try.ntmps116
    go_wp2_with fail
    go_ret
    exact ⟨rfl, rfl⟩

theorem hasAny_at (x m : Int) (w : World) :
    Calls Try.prog 118 #[.int .u64 x, .int .u64 m] w fun e w' => e = .returned (.bool (anyB x m)) ∧ w' = w := by
  go_enter Try.func118, Try.ntmps118
  go_wp2_with fail
  go_ret
  exact ⟨rfl, rfl⟩

theorem canonical_at (x : Int) (w : World) (h0 : 0 ≤ x) (h1 : x ≤ 18446744073709551615) :
    Calls Try.prog 73 #[.int .u64 x] w fun e w' => e = .returned (.bool (canonM x)) ∧ w' = w := by
  have hm : x / 16384 % 1125899906842624 = x / 16384 := Int.emod_eq_of_lt (Int.ediv_nonneg h0 (by omega)) (by omega)
  rw [canonM, hm]
  clear hm
  by_cases ht : x / 16384 = 0
  · have ht' : (x / 16384 == 0) = true := by simp [ht]
    clear ht
    go_enter Try.func73, Try.ntmps73
    go_wp2_with fail
    go_ret
    exact ⟨by simp [ht'], rfl⟩
  · have ht' : (x / 16384 == 0) = false := by simpa using ht
    clear ht
    go_enter Try.func73, Try.ntmps73
    go_wp2_with (go_at_call 116; refine (lowBits_at 50 1125899906842623 _ (by omega)).mono ?_; rintro e w' ⟨rfl, rfl⟩)
    go_ret
    exact ⟨by simp [ht'], rfl⟩

theorem implCanonical_at (x : Int) (w : World) (h0 : 0 ≤ x) (h1 : x ≤ 18446744073709551615) :
    Calls Try.prog 25 #[.int .u64 x] w fun e w' => e = .returned (.bool (canonM x)) ∧ w' = w := by
  go_enter Try.func25, Try.ntmps25
  go_wp2_with fail
  refine (canonical_at x w h0 h1).mono ?_
  rintro e w' ⟨rfl, rfl⟩
  go_wp2_with fail
  go_ret
  exact ⟨rfl, rfl⟩

theorem ppn_at (x : Int) (w : World) (h0 : 0 ≤ x) (h1 : x ≤ 18446744073709551615) :
    Calls Try.prog 121 #[.int .u64 x] w fun e w' => e = .returned (.int .u64 (ppnM x)) ∧ w' = w := by
  have H : Hid (bits .and .u64 (x / 1024) 17592186044415 = ppnM x) := mask_u64 44 (x / 1024) 17592186044415 rfl (by omega) (by omega) (by omega)
  go_enter Try.func121, Try.ntmps121
  go_wp2_with (go_at_call 116; refine (lowBits_at 44 17592186044415 _ (by omega)).mono ?_; rintro e w' ⟨rfl, rfl⟩)
  go_ret
  exact ⟨ret_u64 H.out, rfl⟩

theorem beyondPpn_at (x : Int) (w : World) (h0 : 0 ≤ x) (h1 : x ≤ 18446744073709551615) :
    Calls Try.prog 151 #[.int .u64 x] w fun e w' => e = .returned (.int .u64 (x / 18014398509481984 % 1024)) ∧ w' = w := by
  have H : Hid (x / 18014398509481984 = x / 18014398509481984 % 1024) := show _ = _ by omega
  go_enter Try.func151, Try.ntmps151
  go_wp2_with fail
  go_ret
  exact ⟨ret_u64 H.out, rfl⟩

def soundM (x : Int) : Bool := bitB x 1 && (x / 18014398509481984 % 1024 == 0) && !(bitB x 4 && !bitB x 2)

theorem sound_at (x : Int) (w : World) (h0 : 0 ≤ x) (h1 : x ≤ 18446744073709551615) :
    Calls Try.prog 117 #[.int .u64 x] w fun e w' => e = .returned (.bool (soundM x)) ∧ w' = w := by
  have HV : Hid (anyB x 1 = bitB x 1) := anyB_bit 0 x 1 rfl (by omega) h0 h1
  have HR : Hid (anyB x 2 = bitB x 2) := anyB_bit 1 x 2 rfl (by omega) h0 h1
  have HW : Hid (anyB x 4 = bitB x 4) := anyB_bit 2 x 4 rfl (by omega) h0 h1
  cases hw : bitB x 4 <;> cases hr : bitB x 2 <;> cases hv : bitB x 1
  all_goals
    go_enter Try.func117, Try.ntmps117
    go_wp2_with (first
      | (go_at_call 118; refine (hasAny_at x _ _).mono ?_; rintro e w' ⟨rfl, rfl⟩; first | rw [HW.out, hw] | rw [HR.out, hr] | rw [HV.out, hv])
      | (go_at_call 151; refine (beyondPpn_at x _ h0 h1).mono ?_; rintro e w' ⟨rfl, rfl⟩))
    all_goals
      go_ret
      exact ⟨ret_bool (by simp [soundM, hw, hr, hv]; try assumption), rfl⟩

theorem aligned_at (x level : Int) (w : World) (h0 : 0 ≤ x) (h1 : x ≤ 18446744073709551615) (hl : level = 0 ∨ level = 1 ∨ level = 2) :
    Calls Try.prog 119 #[.int .u64 x, .int .i64 level] w fun e w' => e = .returned (.bool (ppnM x % pow3 level == 0)) ∧ w' = w := by
  have hpp : 0 ≤ ppnM x ∧ ppnM x < 17592186044416 := ⟨Int.emod_nonneg _ (by omega), Int.emod_lt_of_pos _ (by omega)⟩
  have HP : ∀ w, Hid (Calls Try.prog 121 #[.int .u64 x] w fun e w' => e = .returned (.int .u64 (ppnM x)) ∧ w' = w) := fun w => ppn_at x w h0 h1
  generalize ppnM x = p at *
  rcases hl with rfl | rfl | rfl
  · have H : Hid ((bits .and .u64 p 0 == 0) = (p % pow3 0 == 0)) := by
      show _ = _
      rw [mask_u64 0 p 0 rfl (by omega) hpp.1 (by omega)]; rfl
    go_enter Try.func119, Try.ntmps119
    go_wp2_with (first
      | (go_at_call 121; refine ((HP _).out).mono ?_; rintro e w' ⟨rfl, rfl⟩)
      | (go_at_call 116; refine (lowBits_at 0 0 _ (by omega)).mono ?_; rintro e w' ⟨rfl, rfl⟩))
    go_ret
    exact ⟨ret_bool H.out, rfl⟩
  · have H : Hid ((bits .and .u64 p 7 == 0) = (p % pow3 1 == 0)) := by
      show _ = _
      rw [mask_u64 3 p 7 rfl (by omega) hpp.1 (by omega)]; rfl
    go_enter Try.func119, Try.ntmps119
    go_wp2_with (first
      | (go_at_call 121; refine ((HP _).out).mono ?_; rintro e w' ⟨rfl, rfl⟩)
      | (go_at_call 116; refine (lowBits_at 3 7 _ (by omega)).mono ?_; rintro e w' ⟨rfl, rfl⟩))
    go_ret
    exact ⟨ret_bool H.out, rfl⟩
  · have H : Hid ((bits .and .u64 p 63 == 0) = (p % pow3 2 == 0)) := by
      show _ = _
      rw [mask_u64 6 p 63 rfl (by omega) hpp.1 (by omega)]; rfl
    go_enter Try.func119, Try.ntmps119
    go_wp2_with (first
      | (go_at_call 121; refine ((HP _).out).mono ?_; rintro e w' ⟨rfl, rfl⟩)
      | (go_at_call 116; refine (lowBits_at 6 63 _ (by omega)).mono ?_; rintro e w' ⟨rfl, rfl⟩))
    go_ret
    exact ⟨ret_bool H.out, rfl⟩

theorem knownLevel_at (l : Int) (w : World) :
    Calls Try.prog 80 #[.int .i64 l] w fun e w' => e = .returned (.bool (decide (0 ≤ l ∧ l ≤ 2))) ∧ w' = w := by
  by_cases h : 0 ≤ l
  · go_enter Try.func80, Try.ntmps80
    go_wp2_with fail
    go_ret
    exact ⟨ret_bool (by simp [h]), rfl⟩
  · go_enter Try.func80, Try.ntmps80
    go_wp2_with fail
    go_ret
    exact ⟨ret_bool (by simp; omega), rfl⟩

set_option maxHeartbeats 800000 in
theorem kind_at (x level : Int) (w : World) (h0 : 0 ≤ x) (h1 : x ≤ 18446744073709551615) :
    Calls Try.prog 76 #[.int .u64 x, .int .i64 level] w fun e w' => e = .returned (.int .i64 (kindM x level)) ∧ w' = w := by
  by_cases hlev : 0 ≤ level ∧ level ≤ 2
  · have hk : decide (0 ≤ level ∧ level ≤ 2) = true := by simpa using hlev
    have HK : Hid (decide (0 ≤ level ∧ level ≤ 2) = true) := hk
    have hl : level = 0 ∨ level = 1 ∨ level = 2 := by omega
    clear hk hlev
    have HR : Hid (anyB x 14 = (bitB x 2 || bitB x 4 || bitB x 8)) := anyB_rwx x h0 h1
    have HU : Hid (anyB x 208 = (bitB x 16 || bitB x 64 || bitB x 128)) := anyB_uad x h0 h1
    cases hs : soundM x
    · have HE : Hid (kindM x level = 0) := by
        show _ = _
        simp only [kindM]
        rw [if_pos]
        simp only [soundM] at hs
        cases hv : bitB x 1
        · simp
        · rw [hv] at hs
          by_cases hb : 0 < x / 18014398509481984 % 1024
          · simp [hb]
          · have hb' : x / 18014398509481984 % 1024 = 0 := by omega
            rw [hb'] at hs ⊢
            simp at hs
            simp [hs]
      go_enter Try.func76, Try.ntmps76
      go_wp2_with (first
        | (go_at_call 80; refine (knownLevel_at level _).mono ?_; rintro e w' ⟨rfl, rfl⟩; rw [HK.out])
        | (go_at_call 117; refine (sound_at x _ h0 h1).mono ?_; rintro e w' ⟨rfl, rfl⟩; rw [hs]))
      go_ret
      exact ⟨ret_i64 HE.out.symm, rfl⟩
    · have hn : ¬ (level < 0 ∨ 2 < level ∨ bitB x 1 = false ∨ 0 < x / 18014398509481984 % 1024 ∨ (bitB x 4 = true ∧ bitB x 2 = false)) := by
        simp only [soundM, Bool.and_eq_true, beq_iff_eq, Bool.not_eq_true', Bool.and_eq_false_iff, Bool.not_eq_false'] at hs
        obtain ⟨⟨a1, a2⟩, a3⟩ := hs
        rw [a1, a2]
        rcases a3 with a3 | a3
        · simp [a3]; omega
        · simp [a3]; omega
      have HE : Hid (kindM x level = if bitB x 2 = false ∧ bitB x 4 = false ∧ bitB x 8 = false then (if level = 0 ∨ bitB x 16 = true ∨ bitB x 64 = true ∨ bitB x 128 = true then 0 else 1) else if 0 < ppnM x % pow3 level then 0 else 2) := by
        show _ = _
        rw [kindM, if_neg hn]
      clear hn
      cases hr : (bitB x 2 || bitB x 4 || bitB x 8)
      · simp only [Bool.or_eq_false_iff] at hr
        have HE2 : Hid (kindM x level = if level = 0 ∨ bitB x 16 = true ∨ bitB x 64 = true ∨ bitB x 128 = true then 0 else 1) := by
          show _ = _
          rw [HE.out, if_pos ⟨hr.1.1, hr.1.2, hr.2⟩]
        clear HE
        have HR' : Hid (anyB x 14 = false) := by show _ = _; rw [HR.out, hr.1.1, hr.1.2, hr.2]; rfl
        clear HR hr
        by_cases hz : level = 0
        · subst hz
          go_enter Try.func76, Try.ntmps76
          go_wp2_with (first
            | (go_at_call 80; refine (knownLevel_at 0 _).mono ?_; rintro e w' ⟨rfl, rfl⟩; rw [HK.out])
            | (go_at_call 117; refine (sound_at x _ h0 h1).mono ?_; rintro e w' ⟨rfl, rfl⟩; rw [hs])
            | (go_at_call 118; refine (hasAny_at x _ _).mono ?_; rintro e w' ⟨rfl, rfl⟩; rw [HR'.out]))
          go_ret
          exact ⟨ret_i64 (by rw [HE2.out]; simp), rfl⟩
        · have hz' : (level == 0) = false := by simpa using hz
          cases hu : (bitB x 16 || bitB x 64 || bitB x 128)
          · have HE3 : Hid (kindM x level = 1) := by
              show _ = _
              simp only [Bool.or_eq_false_iff] at hu
              rw [HE2.out, hu.1.1, hu.1.2, hu.2]
              simp [hz]
            go_enter Try.func76, Try.ntmps76
            go_wp2_with (first
              | (go_at_call 80; refine (knownLevel_at level _).mono ?_; rintro e w' ⟨rfl, rfl⟩; rw [HK.out])
              | (go_at_call 117; refine (sound_at x _ h0 h1).mono ?_; rintro e w' ⟨rfl, rfl⟩; rw [hs])
              | (go_at_call 118; refine (hasAny_at x _ _).mono ?_; rintro e w' ⟨rfl, rfl⟩; first | rw [HR'.out] | rw [HU.out, hu]))
            go_ret
            exact ⟨ret_i64 HE3.out.symm, rfl⟩
          · have HE3 : Hid (kindM x level = 0) := by
              show _ = _
              simp only [Bool.or_eq_true] at hu
              rw [HE2.out, if_pos]
              rcases hu with (hu | hu) | hu <;> simp [hu]
            go_enter Try.func76, Try.ntmps76
            go_wp2_with (first
              | (go_at_call 80; refine (knownLevel_at level _).mono ?_; rintro e w' ⟨rfl, rfl⟩; rw [HK.out])
              | (go_at_call 117; refine (sound_at x _ h0 h1).mono ?_; rintro e w' ⟨rfl, rfl⟩; rw [hs])
              | (go_at_call 118; refine (hasAny_at x _ _).mono ?_; rintro e w' ⟨rfl, rfl⟩; first | rw [HR'.out] | rw [HU.out, hu]))
            go_ret
            exact ⟨ret_i64 HE3.out.symm, rfl⟩
      · have HR' : Hid (anyB x 14 = true) := by show _ = _; rw [HR.out, hr]
        have HE2 : Hid (kindM x level = if 0 < ppnM x % pow3 level then 0 else 2) := by
          show _ = _
          rw [HE.out, if_neg]
          rintro ⟨q1, q2, q3⟩
          rw [q1, q2, q3] at hr
          cases hr
        clear HE HR hr
        have hnn : 0 ≤ ppnM x % pow3 level := by
          apply Int.emod_nonneg
          rcases hl with rfl | rfl | rfl <;> decide
        cases ha : (ppnM x % pow3 level == 0)
        · have HE3 : Hid (kindM x level = 0) := by
            show _ = _
            have : ppnM x % pow3 level ≠ 0 := by simpa using ha
            rw [HE2.out, if_pos (by omega)]
          clear hnn
          go_enter Try.func76, Try.ntmps76
          go_wp2_with (first
            | (go_at_call 80; refine (knownLevel_at level _).mono ?_; rintro e w' ⟨rfl, rfl⟩; rw [HK.out])
            | (go_at_call 117; refine (sound_at x _ h0 h1).mono ?_; rintro e w' ⟨rfl, rfl⟩; rw [hs])
            | (go_at_call 118; refine (hasAny_at x _ _).mono ?_; rintro e w' ⟨rfl, rfl⟩; rw [HR'.out])
            | (go_at_call 119; refine (aligned_at x level _ h0 h1 hl).mono ?_; rintro e w' ⟨rfl, rfl⟩; rw [ha]))
          go_ret
          exact ⟨ret_i64 HE3.out.symm, rfl⟩
        · have HE3 : Hid (kindM x level = 2) := by
            show _ = _
            have : ppnM x % pow3 level = 0 := by simpa using ha
            rw [HE2.out, if_neg (by omega)]
          clear hnn
          go_enter Try.func76, Try.ntmps76
          go_wp2_with (first
            | (go_at_call 80; refine (knownLevel_at level _).mono ?_; rintro e w' ⟨rfl, rfl⟩; rw [HK.out])
            | (go_at_call 117; refine (sound_at x _ h0 h1).mono ?_; rintro e w' ⟨rfl, rfl⟩; rw [hs])
            | (go_at_call 118; refine (hasAny_at x _ _).mono ?_; rintro e w' ⟨rfl, rfl⟩; rw [HR'.out])
            | (go_at_call 119; refine (aligned_at x level _ h0 h1 hl).mono ?_; rintro e w' ⟨rfl, rfl⟩; rw [ha]))
          go_ret
          exact ⟨ret_i64 HE3.out.symm, rfl⟩
  · have HK : Hid (decide (0 ≤ level ∧ level ≤ 2) = false) := by show _ = _; simpa using hlev
    have HE : Hid (kindM x level = 0) := by
      show _ = _
      rw [kindM, if_pos (by omega)]
    clear hlev
    go_enter Try.func76, Try.ntmps76
    go_wp2_with (go_at_call 80; refine (knownLevel_at level _).mono ?_; rintro e w' ⟨rfl, rfl⟩; rw [HK.out])
    go_ret
    exact ⟨ret_i64 HE.out.symm, rfl⟩

theorem implPteKind_at (x level : Int) (w : World) (h0 : 0 ≤ x) (h1 : x ≤ 18446744073709551615) :
    Calls Try.prog 27 #[.int .u64 x, .int .i64 level] w fun e w' => e = .returned (.int .i64 (kindM x level)) ∧ w' = w := by
  go_enter Try.func27, Try.ntmps27
  go_wp2_with fail
  refine (kind_at x level w h0 h1).mono ?_
  rintro e w' ⟨rfl, rfl⟩
  go_wp2_with fail
  go_ret
  exact ⟨rfl, rfl⟩

end Go.Proofs.Ythekickjjaleaab

/- The program's chapter 4: tags, address spaces, what a cache of leaves or of pointers may hold. -/
namespace Go.Proofs.Ythekickjjaleaab
open Go.RowKit
set_option linter.unusedVariables false

theorem tagMask_at (level : Int) (w : World) (hl : level = 0 ∨ level = 1 ∨ level = 2) :
    Calls Try.prog 153 #[.int .i64 level] w fun e w' => e = .returned (.int .u64 (pow9 level - 1)) ∧ w' = w := by
  rcases hl with rfl | rfl | rfl
  all_goals
    go_enter Try.func153, Try.ntmps153
    go_wp2_with (go_at_call 116; refine (lowBits_at 15 32767 _ (by omega)).mono ?_; rintro e w' ⟨rfl, rfl⟩)
    go_ret
    exact ⟨ret_u64 (by decide), rfl⟩

theorem tag_at (va level : Int) (w : World) (hv0 : 0 ≤ va) (hv1 : va ≤ 18446744073709551615) (hl : level = 0 ∨ level = 1 ∨ level = 2) :
    Calls Try.prog 154 #[.int .u64 va, .int .i64 level] w fun e w' => e = .returned (.int .u64 (tagM va level)) ∧ ∃ n, w' = w.drewN n := by
  rcases hl with rfl | rfl | rfl
  · have H : Hid (bits .and .u64 (va / 64) 511 = tagM va 0) := mask_u64 9 (va / 64) 511 rfl (by omega) (by omega) (by omega)
    go_enter Try.func154, Try.ntmps154
    go_wp2_with fail
    go_quiet ((go_at_call 153; exact Calls.quiet_of_same (tagMask_at 0 _ (by omega))))
    go_wp2_with fail
    go_ret
    exact ⟨ret_u64 H.out, nq, rfl⟩
  · have H : Hid (bits .and .u64 (va / 512) 63 = tagM va 1) := mask_u64 6 (va / 512) 63 rfl (by omega) (by omega) (by omega)
    go_enter Try.func154, Try.ntmps154
    go_wp2_with fail
    go_quiet ((go_at_call 153; exact Calls.quiet_of_same (tagMask_at 1 _ (by omega))))
    go_wp2_with fail
    go_ret
    exact ⟨ret_u64 H.out, nq, rfl⟩
  · have H : Hid (bits .and .u64 (va / 4096) 7 = tagM va 2) := mask_u64 3 (va / 4096) 7 rfl (by omega) (by omega) (by omega)
    go_enter Try.func154, Try.ntmps154
    go_wp2_with fail
    go_quiet ((go_at_call 153; exact Calls.quiet_of_same (tagMask_at 2 _ (by omega))))
    go_wp2_with fail
    go_ret
    exact ⟨ret_u64 H.out, nq, rfl⟩


theorem goodAtL_at (x level : Int) (w : World) (h0 : 0 ≤ x) (h1 : x ≤ 18446744073709551615) :
    Calls Try.prog 178 #[.int .u64 x, .int .i64 level] w fun e w' => e = .returned (.bool (kindM x level == 2)) ∧ w' = w := by
  go_enter Try.func178, Try.ntmps178
  go_wp2_with (go_at_call 76; refine (kind_at x level _ h0 h1).mono ?_; rintro e w' ⟨rfl, rfl⟩)
  go_ret
  exact ⟨ret_bool (by simp), rfl⟩

theorem goodAtP_at (x level : Int) (w : World) (h0 : 0 ≤ x) (h1 : x ≤ 18446744073709551615) :
    Calls Try.prog 176 #[.int .u64 x, .int .i64 level] w fun e w' => e = .returned (.bool (kindM x level == 1)) ∧ w' = w := by
  go_enter Try.func176, Try.ntmps176
  go_wp2_with (go_at_call 76; refine (kind_at x level _ h0 h1).mono ?_; rintro e w' ⟨rfl, rfl⟩)
  go_ret
  exact ⟨ret_bool (by simp), rfl⟩

theorem knownPick_at (k : Int) (w : World) :
    Calls Try.prog 104 #[.int .i64 k] w fun e w' => e = .returned (.bool (decide (0 ≤ k ∧ k ≤ 255))) ∧ w' = w := by
  by_cases h : 0 ≤ k
  · go_enter Try.func104, Try.ntmps104
    go_wp2_with fail
    go_ret
    exact ⟨ret_bool (by simp [h]), rfl⟩
  · go_enter Try.func104, Try.ntmps104
    go_wp2_with fail
    go_ret
    exact ⟨ret_bool (by simp; omega), rfl⟩

end Go.Proofs.Ythekickjjaleaab

/- The program's slotOf, for one kind of cache. Written by mk4.py. -/
namespace Go.Proofs.Ythekickjjaleaab
open Go.RowKit
set_option linter.unusedVariables false

theorem method_goodAtL (x : Int) (w : World) : (method 311 132 (.int .u64 x) "loop.example/s0051/impl.goodAt").run Try.prog w = .ok (178, .int .u64 x) w := by kernel_rfl

theorem slot_vL (lv tg asd pt tm : Int) (gl : Bool) (w : World)  :
    Calls Try.prog 136 #[.agg #[.bool false, .int .i64 lv, .int .u64 tg, .int .u64 asd, .bool gl, .int .u64 pt]] w fun e w' => e = .returned (.tuple #[slotV ent0, .bool false]) ∧ Below w.heap.size w w' := by
  have n1 := ((Below.refl w.heap.size w).alloc (Nat.le_refl _) (Obj.cells #[.bool false, .int .i64 lv, .int .u64 tg, .int .u64 asd, .bool gl, .int .u64 pt] 75)).alloc (by simp) (Obj.cells #[.int .i64 0, .int .u64 0, .int .u64 0, .bool false, .bool false, .int .u64 0] 172)
  go_enter Try.func136, Try.ntmps136
  go_wp2_with fail
  go_quiet (fail)
  go_wp2_with fail
  exact bodyPost_ret (v := .tuple #[slotV ent0, .bool false]) (by simp [results, Try.results136, go_sem, slotV, ent0]) rfl ⟨rfl, belS6 (below_drewN n1 nq) (by omega) _ _ _ _ _ _⟩

theorem slot_lL (lv tg asd pt tm : Int) (gl : Bool) (w : World) (HKL : Hid (∀ w, Calls Try.prog 80 #[.int .i64 lv] w fun e w' => e = .returned (.bool false) ∧ w' = w)) :
    Calls Try.prog 136 #[.agg #[.bool true, .int .i64 lv, .int .u64 tg, .int .u64 asd, .bool gl, .int .u64 pt]] w fun e w' => e = .returned (.tuple #[slotV ent0, .bool false]) ∧ Below w.heap.size w w' := by
  have n1 := ((Below.refl w.heap.size w).alloc (Nat.le_refl _) (Obj.cells #[.bool true, .int .i64 lv, .int .u64 tg, .int .u64 asd, .bool gl, .int .u64 pt] 75)).alloc (by simp) (Obj.cells #[.int .i64 0, .int .u64 0, .int .u64 0, .bool false, .bool false, .int .u64 0] 172)
  go_enter Try.func136, Try.ntmps136
  go_wp2_with fail
  go_quiet ((go_at_call 80; exact Calls.quiet_of_same (HKL.out _)))
  go_wp2_with fail
  exact bodyPost_ret (v := .tuple #[slotV ent0, .bool false]) (by simp [results, Try.results136, go_sem, slotV, ent0]) rfl ⟨rfl, belS6 (below_drewN n1 nq) (by omega) _ _ _ _ _ _⟩

theorem slot_tL (lv tg asd pt tm : Int) (gl : Bool) (w : World) (HKL : Hid (∀ w, Calls Try.prog 80 #[.int .i64 lv] w fun e w' => e = .returned (.bool true) ∧ w' = w)) (HTM : Hid (∀ w, Calls Try.prog 153 #[.int .i64 lv] w fun e w' => e = .returned (.int .u64 tm) ∧ w' = w)) (h : ¬ (tg ≤ tm)) :
    Calls Try.prog 136 #[.agg #[.bool true, .int .i64 lv, .int .u64 tg, .int .u64 asd, .bool gl, .int .u64 pt]] w fun e w' => e = .returned (.tuple #[slotV ent0, .bool false]) ∧ Below w.heap.size w w' := by
  have n1 := ((Below.refl w.heap.size w).alloc (Nat.le_refl _) (Obj.cells #[.bool true, .int .i64 lv, .int .u64 tg, .int .u64 asd, .bool gl, .int .u64 pt] 75)).alloc (by simp) (Obj.cells #[.int .i64 0, .int .u64 0, .int .u64 0, .bool false, .bool false, .int .u64 0] 172)
  go_enter Try.func136, Try.ntmps136
  go_wp2_with fail
  go_quiet (first
      | (go_at_call 80; exact Calls.quiet_of_same (HKL.out _))
      | (go_at_call 153; exact Calls.quiet_of_same (HTM.out _)))
  go_wp2_with fail
  exact bodyPost_ret (v := .tuple #[slotV ent0, .bool false]) (by simp [results, Try.results136, go_sem, slotV, ent0]) rfl ⟨rfl, belS6 (below_drewN n1 nq) (by omega) _ _ _ _ _ _⟩

theorem slot_aL (lv tg asd pt tm : Int) (gl : Bool) (w : World) (HKL : Hid (∀ w, Calls Try.prog 80 #[.int .i64 lv] w fun e w' => e = .returned (.bool true) ∧ w' = w)) (HTM : Hid (∀ w, Calls Try.prog 153 #[.int .i64 lv] w fun e w' => e = .returned (.int .u64 tm) ∧ w' = w)) (h : tg ≤ tm) (h2 : ¬ (asd ≤ 65535)) :
    Calls Try.prog 136 #[.agg #[.bool true, .int .i64 lv, .int .u64 tg, .int .u64 asd, .bool gl, .int .u64 pt]] w fun e w' => e = .returned (.tuple #[slotV ent0, .bool false]) ∧ Below w.heap.size w w' := by
  have n1 := ((Below.refl w.heap.size w).alloc (Nat.le_refl _) (Obj.cells #[.bool true, .int .i64 lv, .int .u64 tg, .int .u64 asd, .bool gl, .int .u64 pt] 75)).alloc (by simp) (Obj.cells #[.int .i64 0, .int .u64 0, .int .u64 0, .bool false, .bool false, .int .u64 0] 172)
  go_enter Try.func136, Try.ntmps136
  go_wp2_with fail
  go_quiet (first
      | (go_at_call 80; exact Calls.quiet_of_same (HKL.out _))
      | (go_at_call 153; exact Calls.quiet_of_same (HTM.out _)))
  go_wp2_with fail
  exact bodyPost_ret (v := .tuple #[slotV ent0, .bool false]) (by simp [results, Try.results136, go_sem, slotV, ent0]) rfl ⟨rfl, belS6 (below_drewN n1 nq) (by omega) _ _ _ _ _ _⟩

theorem slot_gL (lv tg asd pt tm : Int) (gl g5 : Bool) (w : World) (HKL : Hid (∀ w, Calls Try.prog 80 #[.int .i64 lv] w fun e w' => e = .returned (.bool true) ∧ w' = w)) (HTM : Hid (∀ w, Calls Try.prog 153 #[.int .i64 lv] w fun e w' => e = .returned (.int .u64 tm) ∧ w' = w)) (h : tg ≤ tm) (h2 : asd ≤ 65535) (HB : Hid (∀ w, Calls Try.prog 118 #[.int .u64 pt, .int .u64 32] w fun e w' => e = .returned (.bool g5) ∧ w' = w)) (hne : (gl == g5) = false) :
    Calls Try.prog 136 #[.agg #[.bool true, .int .i64 lv, .int .u64 tg, .int .u64 asd, .bool gl, .int .u64 pt]] w fun e w' => e = .returned (.tuple #[slotV ent0, .bool false]) ∧ Below w.heap.size w w' := by
  have hne2 : (gl != g5) = true := by simp [bne, hne]
  have H1 : Hid (∀ k, (((w.alloc (Obj.cells #[.bool true, .int .i64 lv, .int .u64 tg, .int .u64 asd, .bool gl, .int .u64 pt] 75)).alloc (Obj.cells #[.int .i64 0, .int .u64 0, .int .u64 0, .bool false, .bool false, .int .u64 0] 172)).drewN k).heap[w.heap.size]? = some (.cells #[.bool true, .int .i64 lv, .int .u64 tg, .int .u64 asd, .bool gl, .int .u64 pt] 75 (0, 0))) := by
    intro k
    show ((w.alloc (Obj.cells #[.bool true, .int .i64 lv, .int .u64 tg, .int .u64 asd, .bool gl, .int .u64 pt] 75)).alloc (Obj.cells #[.int .i64 0, .int .u64 0, .int .u64 0, .bool false, .bool false, .int .u64 0] 172)).heap[w.heap.size]? = _
    rw [heap_alloc_old _ _ (by simp)]
    exact heap_alloc_new w _
  have H2 : Hid (∀ k, (((w.alloc (Obj.cells #[.bool true, .int .i64 lv, .int .u64 tg, .int .u64 asd, .bool gl, .int .u64 pt] 75)).alloc (Obj.cells #[.int .i64 0, .int .u64 0, .int .u64 0, .bool false, .bool false, .int .u64 0] 172)).drewN k).heap[w.heap.size + 1]? = some (.cells #[.int .i64 0, .int .u64 0, .int .u64 0, .bool false, .bool false, .int .u64 0] 172 (0, 0))) := by
    intro k
    have := heap_alloc_new (w.alloc (Obj.cells #[.bool true, .int .i64 lv, .int .u64 tg, .int .u64 asd, .bool gl, .int .u64 pt] 75)) (Obj.cells #[.int .i64 0, .int .u64 0, .int .u64 0, .bool false, .bool false, .int .u64 0] 172)
    simp only [World.size_alloc] at this
    exact this
  have n1 := ((Below.refl w.heap.size w).alloc (Nat.le_refl _) (Obj.cells #[.bool true, .int .i64 lv, .int .u64 tg, .int .u64 asd, .bool gl, .int .u64 pt] 75)).alloc (by simp) (Obj.cells #[.int .i64 0, .int .u64 0, .int .u64 0, .bool false, .bool false, .int .u64 0] 172)
  have HW : Hid (∀ k, Below w.heap.size w (((w.alloc (Obj.cells #[.bool true, .int .i64 lv, .int .u64 tg, .int .u64 asd, .bool gl, .int .u64 pt] 75)).alloc (Obj.cells #[.int .i64 0, .int .u64 0, .int .u64 0, .bool false, .bool false, .int .u64 0] 172)).drewN k)) := fun k => below_drewN n1 k
  have HS : Hid (∀ k, (((w.alloc (Obj.cells #[.bool true, .int .i64 lv, .int .u64 tg, .int .u64 asd, .bool gl, .int .u64 pt] 75)).alloc (Obj.cells #[.int .i64 0, .int .u64 0, .int .u64 0, .bool false, .bool false, .int .u64 0] 172)).drewN k).heap.size = w.heap.size + 2) := fun k => by show ((w.alloc (Obj.cells #[.bool true, .int .i64 lv, .int .u64 tg, .int .u64 asd, .bool gl, .int .u64 pt] 75)).alloc (Obj.cells #[.int .i64 0, .int .u64 0, .int .u64 0, .bool false, .bool false, .int .u64 0] 172)).heap.size = _; simp
  have hm := method_goodAtL pt
  clear n1
  go_enter Try.func136, Try.ntmps136
  go_wp2_with fail
  go_quiet (first
      | (go_at_call 80; exact Calls.quiet_of_same (HKL.out _))
      | (go_at_call 153; exact Calls.quiet_of_same (HTM.out _)))
  have K1 := H1.out nq
  have K2 := H2.out nq
  have B1 := HW.out nq
  have S1 := HS.out nq
  generalize ((w.alloc (Obj.cells #[.bool true, .int .i64 lv, .int .u64 tg, .int .u64 asd, .bool gl, .int .u64 pt] 75)).alloc (Obj.cells #[.int .i64 0, .int .u64 0, .int .u64 0, .bool false, .bool false, .int .u64 0] 172)).drewN nq = v2 at K1 K2 B1 S1 ⊢
  have P1 : Hid _ := K1
  have P2 : Hid _ := K2
  clear H1 H2 HW HS K1 K2
  obtain ⟨⟨x0, x1, x2, x3, x4, x5⟩, _⟩ := six_at P1.out
  obtain ⟨⟨y0, y1, y2, y3, y4, y5⟩, z0, z1, z2, z3, z4, z5⟩ := six_at P2.out
  have ne1 : v2.heap.size ≠ w.heap.size := by omega
  have ne2 : v2.heap.size ≠ w.heap.size + 1 := by omega
  have ne3 : w.heap.size < v2.heap.size := by omega
  have ne4 : w.heap.size + 1 < v2.heap.size := by omega
  clear HKL HTM
  go_wp2_with fail
  go_quiet ((go_at_call 118; exact Calls.quiet_of_same (HB.out _)))
  go_wp2_with fail
  exact bodyPost_ret (v := .tuple #[slotV ent0, .bool false]) (by simp [results, Try.results136, go_sem, slotV, ent0, y0, y1, y2, y3, y4, y5]) rfl ⟨rfl, belS6 (below_drewN B1 _) (by omega) _ _ _ _ _ _⟩

theorem slot_kL (lv tg asd pt tm : Int) (gl : Bool) (w : World) (HKL : Hid (∀ w, Calls Try.prog 80 #[.int .i64 lv] w fun e w' => e = .returned (.bool true) ∧ w' = w)) (HTM : Hid (∀ w, Calls Try.prog 153 #[.int .i64 lv] w fun e w' => e = .returned (.int .u64 tm) ∧ w' = w)) (h : tg ≤ tm) (h2 : asd ≤ 65535) (HB : Hid (∀ w, Calls Try.prog 118 #[.int .u64 pt, .int .u64 32] w fun e w' => e = .returned (.bool gl) ∧ w' = w)) (HGD : Hid (∀ w, Calls Try.prog 178 #[.int .u64 pt, .int .i64 lv] w fun e w' => e = .returned (.bool false) ∧ w' = w)) :
    Calls Try.prog 136 #[.agg #[.bool true, .int .i64 lv, .int .u64 tg, .int .u64 asd, .bool gl, .int .u64 pt]] w fun e w' => e = .returned (.tuple #[slotV ent0, .bool false]) ∧ Below w.heap.size w w' := by
  have hne2 : (gl != gl) = false := by simp
  have H1 : Hid (∀ k, (((w.alloc (Obj.cells #[.bool true, .int .i64 lv, .int .u64 tg, .int .u64 asd, .bool gl, .int .u64 pt] 75)).alloc (Obj.cells #[.int .i64 0, .int .u64 0, .int .u64 0, .bool false, .bool false, .int .u64 0] 172)).drewN k).heap[w.heap.size]? = some (.cells #[.bool true, .int .i64 lv, .int .u64 tg, .int .u64 asd, .bool gl, .int .u64 pt] 75 (0, 0))) := by
    intro k
    show ((w.alloc (Obj.cells #[.bool true, .int .i64 lv, .int .u64 tg, .int .u64 asd, .bool gl, .int .u64 pt] 75)).alloc (Obj.cells #[.int .i64 0, .int .u64 0, .int .u64 0, .bool false, .bool false, .int .u64 0] 172)).heap[w.heap.size]? = _
    rw [heap_alloc_old _ _ (by simp)]
    exact heap_alloc_new w _
  have H2 : Hid (∀ k, (((w.alloc (Obj.cells #[.bool true, .int .i64 lv, .int .u64 tg, .int .u64 asd, .bool gl, .int .u64 pt] 75)).alloc (Obj.cells #[.int .i64 0, .int .u64 0, .int .u64 0, .bool false, .bool false, .int .u64 0] 172)).drewN k).heap[w.heap.size + 1]? = some (.cells #[.int .i64 0, .int .u64 0, .int .u64 0, .bool false, .bool false, .int .u64 0] 172 (0, 0))) := by
    intro k
    have := heap_alloc_new (w.alloc (Obj.cells #[.bool true, .int .i64 lv, .int .u64 tg, .int .u64 asd, .bool gl, .int .u64 pt] 75)) (Obj.cells #[.int .i64 0, .int .u64 0, .int .u64 0, .bool false, .bool false, .int .u64 0] 172)
    simp only [World.size_alloc] at this
    exact this
  have n1 := ((Below.refl w.heap.size w).alloc (Nat.le_refl _) (Obj.cells #[.bool true, .int .i64 lv, .int .u64 tg, .int .u64 asd, .bool gl, .int .u64 pt] 75)).alloc (by simp) (Obj.cells #[.int .i64 0, .int .u64 0, .int .u64 0, .bool false, .bool false, .int .u64 0] 172)
  have HW : Hid (∀ k, Below w.heap.size w (((w.alloc (Obj.cells #[.bool true, .int .i64 lv, .int .u64 tg, .int .u64 asd, .bool gl, .int .u64 pt] 75)).alloc (Obj.cells #[.int .i64 0, .int .u64 0, .int .u64 0, .bool false, .bool false, .int .u64 0] 172)).drewN k)) := fun k => below_drewN n1 k
  have HS : Hid (∀ k, (((w.alloc (Obj.cells #[.bool true, .int .i64 lv, .int .u64 tg, .int .u64 asd, .bool gl, .int .u64 pt] 75)).alloc (Obj.cells #[.int .i64 0, .int .u64 0, .int .u64 0, .bool false, .bool false, .int .u64 0] 172)).drewN k).heap.size = w.heap.size + 2) := fun k => by show ((w.alloc (Obj.cells #[.bool true, .int .i64 lv, .int .u64 tg, .int .u64 asd, .bool gl, .int .u64 pt] 75)).alloc (Obj.cells #[.int .i64 0, .int .u64 0, .int .u64 0, .bool false, .bool false, .int .u64 0] 172)).heap.size = _; simp
  have hm := method_goodAtL pt
  clear n1
  go_enter Try.func136, Try.ntmps136
  go_wp2_with fail
  go_quiet (first
      | (go_at_call 80; exact Calls.quiet_of_same (HKL.out _))
      | (go_at_call 153; exact Calls.quiet_of_same (HTM.out _)))
  have K1 := H1.out nq
  have K2 := H2.out nq
  have B1 := HW.out nq
  have S1 := HS.out nq
  generalize ((w.alloc (Obj.cells #[.bool true, .int .i64 lv, .int .u64 tg, .int .u64 asd, .bool gl, .int .u64 pt] 75)).alloc (Obj.cells #[.int .i64 0, .int .u64 0, .int .u64 0, .bool false, .bool false, .int .u64 0] 172)).drewN nq = v2 at K1 K2 B1 S1 ⊢
  have P1 : Hid _ := K1
  have P2 : Hid _ := K2
  clear H1 H2 HW HS K1 K2
  obtain ⟨⟨x0, x1, x2, x3, x4, x5⟩, _⟩ := six_at P1.out
  obtain ⟨⟨y0, y1, y2, y3, y4, y5⟩, z0, z1, z2, z3, z4, z5⟩ := six_at P2.out
  have ne1 : v2.heap.size ≠ w.heap.size := by omega
  have ne2 : v2.heap.size ≠ w.heap.size + 1 := by omega
  have ne3 : w.heap.size < v2.heap.size := by omega
  have ne4 : w.heap.size + 1 < v2.heap.size := by omega
  clear HKL HTM
  go_wp2_with fail
  go_quiet (first
      | (go_at_call 118; exact Calls.quiet_of_same (HB.out _))
      | (go_at_call 178; exact Calls.quiet_of_same (HGD.out _)))
  go_wp2_with fail
  exact bodyPost_ret (v := .tuple #[slotV ent0, .bool false]) (by simp [results, Try.results136, go_sem, slotV, ent0, y0, y1, y2, y3, y4, y5]) rfl ⟨rfl, belS6 (below_drewN B1 _) (by omega) _ _ _ _ _ _⟩

theorem slot_okL (lv tg asd pt tm : Int) (gl : Bool) (w : World) (HKL : Hid (∀ w, Calls Try.prog 80 #[.int .i64 lv] w fun e w' => e = .returned (.bool true) ∧ w' = w)) (HTM : Hid (∀ w, Calls Try.prog 153 #[.int .i64 lv] w fun e w' => e = .returned (.int .u64 tm) ∧ w' = w)) (h : tg ≤ tm) (h2 : asd ≤ 65535) (HB : Hid (∀ w, Calls Try.prog 118 #[.int .u64 pt, .int .u64 32] w fun e w' => e = .returned (.bool gl) ∧ w' = w)) (HGD : Hid (∀ w, Calls Try.prog 178 #[.int .u64 pt, .int .i64 lv] w fun e w' => e = .returned (.bool true) ∧ w' = w)) :
    Calls Try.prog 136 #[.agg #[.bool true, .int .i64 lv, .int .u64 tg, .int .u64 asd, .bool gl, .int .u64 pt]] w fun e w' => e = .returned (.tuple #[slotV ⟨true, lv, tg, asd, gl, pt⟩, .bool true]) ∧ Below w.heap.size w w' := by
  have hne2 : (gl != gl) = false := by simp
  have H1 : Hid (∀ k, (((w.alloc (Obj.cells #[.bool true, .int .i64 lv, .int .u64 tg, .int .u64 asd, .bool gl, .int .u64 pt] 75)).alloc (Obj.cells #[.int .i64 0, .int .u64 0, .int .u64 0, .bool false, .bool false, .int .u64 0] 172)).drewN k).heap[w.heap.size]? = some (.cells #[.bool true, .int .i64 lv, .int .u64 tg, .int .u64 asd, .bool gl, .int .u64 pt] 75 (0, 0))) := by
    intro k
    show ((w.alloc (Obj.cells #[.bool true, .int .i64 lv, .int .u64 tg, .int .u64 asd, .bool gl, .int .u64 pt] 75)).alloc (Obj.cells #[.int .i64 0, .int .u64 0, .int .u64 0, .bool false, .bool false, .int .u64 0] 172)).heap[w.heap.size]? = _
    rw [heap_alloc_old _ _ (by simp)]
    exact heap_alloc_new w _
  have H2 : Hid (∀ k, (((w.alloc (Obj.cells #[.bool true, .int .i64 lv, .int .u64 tg, .int .u64 asd, .bool gl, .int .u64 pt] 75)).alloc (Obj.cells #[.int .i64 0, .int .u64 0, .int .u64 0, .bool false, .bool false, .int .u64 0] 172)).drewN k).heap[w.heap.size + 1]? = some (.cells #[.int .i64 0, .int .u64 0, .int .u64 0, .bool false, .bool false, .int .u64 0] 172 (0, 0))) := by
    intro k
    have := heap_alloc_new (w.alloc (Obj.cells #[.bool true, .int .i64 lv, .int .u64 tg, .int .u64 asd, .bool gl, .int .u64 pt] 75)) (Obj.cells #[.int .i64 0, .int .u64 0, .int .u64 0, .bool false, .bool false, .int .u64 0] 172)
    simp only [World.size_alloc] at this
    exact this
  have n1 := ((Below.refl w.heap.size w).alloc (Nat.le_refl _) (Obj.cells #[.bool true, .int .i64 lv, .int .u64 tg, .int .u64 asd, .bool gl, .int .u64 pt] 75)).alloc (by simp) (Obj.cells #[.int .i64 0, .int .u64 0, .int .u64 0, .bool false, .bool false, .int .u64 0] 172)
  have HW : Hid (∀ k, Below w.heap.size w (((w.alloc (Obj.cells #[.bool true, .int .i64 lv, .int .u64 tg, .int .u64 asd, .bool gl, .int .u64 pt] 75)).alloc (Obj.cells #[.int .i64 0, .int .u64 0, .int .u64 0, .bool false, .bool false, .int .u64 0] 172)).drewN k)) := fun k => below_drewN n1 k
  have HS : Hid (∀ k, (((w.alloc (Obj.cells #[.bool true, .int .i64 lv, .int .u64 tg, .int .u64 asd, .bool gl, .int .u64 pt] 75)).alloc (Obj.cells #[.int .i64 0, .int .u64 0, .int .u64 0, .bool false, .bool false, .int .u64 0] 172)).drewN k).heap.size = w.heap.size + 2) := fun k => by show ((w.alloc (Obj.cells #[.bool true, .int .i64 lv, .int .u64 tg, .int .u64 asd, .bool gl, .int .u64 pt] 75)).alloc (Obj.cells #[.int .i64 0, .int .u64 0, .int .u64 0, .bool false, .bool false, .int .u64 0] 172)).heap.size = _; simp
  have hm := method_goodAtL pt
  clear n1
  go_enter Try.func136, Try.ntmps136
  go_wp2_with fail
  go_quiet (first
      | (go_at_call 80; exact Calls.quiet_of_same (HKL.out _))
      | (go_at_call 153; exact Calls.quiet_of_same (HTM.out _)))
  have K1 := H1.out nq
  have K2 := H2.out nq
  have B1 := HW.out nq
  have S1 := HS.out nq
  generalize ((w.alloc (Obj.cells #[.bool true, .int .i64 lv, .int .u64 tg, .int .u64 asd, .bool gl, .int .u64 pt] 75)).alloc (Obj.cells #[.int .i64 0, .int .u64 0, .int .u64 0, .bool false, .bool false, .int .u64 0] 172)).drewN nq = v2 at K1 K2 B1 S1 ⊢
  have P1 : Hid _ := K1
  have P2 : Hid _ := K2
  clear H1 H2 HW HS K1 K2
  obtain ⟨⟨x0, x1, x2, x3, x4, x5⟩, _⟩ := six_at P1.out
  obtain ⟨⟨y0, y1, y2, y3, y4, y5⟩, z0, z1, z2, z3, z4, z5⟩ := six_at P2.out
  have ne1 : v2.heap.size ≠ w.heap.size := by omega
  have ne2 : v2.heap.size ≠ w.heap.size + 1 := by omega
  have ne3 : w.heap.size < v2.heap.size := by omega
  have ne4 : w.heap.size + 1 < v2.heap.size := by omega
  clear HKL HTM
  go_wp2_with fail
  go_quiet (first
      | (go_at_call 118; exact Calls.quiet_of_same (HB.out _))
      | (go_at_call 178; exact Calls.quiet_of_same (HGD.out _)))
  go_wp2_with fail
  exact bodyPost_ret (v := .tuple #[slotV ⟨true, lv, tg, asd, gl, pt⟩, .bool true]) (by simp [results, Try.results136, go_sem, slotV, y0, y1, y2, y3, y4, y5, ne4]) rfl ⟨rfl, (belS6 (below_drewN B1 nq) (by omega) _ _ _ _ _ _).alloc (by simp; omega) _⟩

theorem slotOfL_any (x : EntM) (w : World) (hx : entOk x) :
    Calls Try.prog 136 #[entV x] w fun e w' => e = .returned (.tuple #[slotV (if goodEntM x false = true then x else ent0), .bool (goodEntM x false)]) ∧ Below w.heap.size w w' := by
  obtain ⟨v, lv, tg, asd, gl, pt⟩ := x
  obtain ⟨⟨a1, a2⟩, ⟨b1, b2⟩, ⟨c1, c2⟩, d1, d2⟩ := hx
  simp only at a1 a2 b1 b2 c1 c2 d1 d2
  unfold entV
  simp only
  cases v
  · rw [show goodEntM ⟨false, lv, tg, asd, gl, pt⟩ false = false by simp [goodEntM]]
    exact slot_vL lv tg asd pt 0 gl w
  by_cases h0 : ¬ (0 ≤ lv ∧ lv ≤ 2)
  · rw [show goodEntM ⟨true, lv, tg, asd, gl, pt⟩ false = false by simp [goodEntM]; omega]
    exact slot_lL lv tg asd pt 0 gl w (fun w => by
      have := knownLevel_at lv w
      rw [show decide (0 ≤ lv ∧ lv ≤ 2) = false by simpa using h0] at this
      exact this)
  have h0' : 0 ≤ lv ∧ lv ≤ 2 := Decidable.not_not.1 h0
  have HKL : Hid (∀ w, Calls Try.prog 80 #[.int .i64 lv] w fun e w' => e = .returned (.bool true) ∧ w' = w) := fun w => by
    have := knownLevel_at lv w
    rw [show decide (0 ≤ lv ∧ lv ≤ 2) = true by simpa using h0'] at this
    exact this
  obtain ⟨tm, htm⟩ : ∃ tm, pow9 lv - 1 = tm := ⟨_, rfl⟩
  have HTM : Hid (∀ w, Calls Try.prog 153 #[.int .i64 lv] w fun e w' => e = .returned (.int .u64 tm) ∧ w' = w) := fun w => by
    have := tagMask_at lv w (by omega)
    rw [htm] at this
    exact this
  by_cases h1 : ¬ (tg ≤ tm)
  · rw [show goodEntM ⟨true, lv, tg, asd, gl, pt⟩ false = false by simp [goodEntM]; omega]
    exact slot_tL lv tg asd pt tm gl w HKL HTM h1
  have h1' : tg ≤ tm := Decidable.not_not.1 h1
  by_cases h2 : ¬ (asd ≤ 65535)
  · rw [show goodEntM ⟨true, lv, tg, asd, gl, pt⟩ false = false by simp [goodEntM]; omega]
    exact slot_aL lv tg asd pt tm gl w HKL HTM h1' h2
  have h2' : asd ≤ 65535 := Decidable.not_not.1 h2
  have hgood : goodEntM ⟨true, lv, tg, asd, gl, pt⟩ false = ((gl == bitB pt 32) && (kindM pt lv == 2)) := by
    simp only [goodEntM, wantM]
    simp [h0'.1, h0'.2, h2', show tg < pow9 lv by omega]
  rw [hgood]
  obtain ⟨g5, hg5⟩ : ∃ g5, bitB pt 32 = g5 := ⟨_, rfl⟩
  obtain ⟨gd, hgd⟩ : ∃ gd, (kindM pt lv == 2) = gd := ⟨_, rfl⟩
  have HB : Hid (∀ w, Calls Try.prog 118 #[.int .u64 pt, .int .u64 32] w fun e w' => e = .returned (.bool g5) ∧ w' = w) := fun w => by
    have := hasAny_at pt 32 w
    rw [anyB_bit 5 pt 32 rfl (by omega) d1 d2, hg5] at this
    exact this
  have HGD : Hid (∀ w, Calls Try.prog 178 #[.int .u64 pt, .int .i64 lv] w fun e w' => e = .returned (.bool gd) ∧ w' = w) := fun w => by
    have := goodAtL_at pt lv w d1 d2
    rw [hgd] at this
    exact this
  rw [hg5, hgd]
  cases hq : (gl == g5)
  · exact slot_gL lv tg asd pt tm gl g5 w HKL HTM h1' h2' HB hq
  · have hq' : gl = g5 := by simpa using hq
    subst hq'
    cases gd
    · exact slot_kL lv tg asd pt tm gl w HKL HTM h1' h2' HB HGD
    · exact slot_okL lv tg asd pt tm gl w HKL HTM h1' h2' HB HGD

end Go.Proofs.Ythekickjjaleaab
