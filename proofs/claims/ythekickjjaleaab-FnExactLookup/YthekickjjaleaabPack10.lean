import Derived.Test.YthekickjjaleaabPack02
import Derived.Test.YthekickjjaleaabPack09
import Derived.Test.YthekickjjaleaabPack08
import Derived.Test.YthekickjjaleaabPack07
/- The program's chapter 2: lowBits, canonical, index, the entry's methods, Canonical, PteKind, Granted, PhysOf. -/
namespace Go.Proofs.Ythekickjjaleaab
open Go.RowKit
set_option linter.unusedVariables false

theorem lowBits_at (n m : Int) (w : World) (h : (n = 0 ∧ m = 0) ∨ (n = 3 ∧ m = 7) ∨ (n = 6 ∧ m = 63) ∨ (n = 9 ∧ m = 511) ∨ (n = 12 ∧ m = 4095) ∨ (n = 44 ∧ m = 17592186044415) ∨ (n = 50 ∧ m = 1125899906842623) ∨ (n = 15 ∧ m = 32767) ∨ (n = 16 ∧ m = 65535)) :
    Calls Try.prog 116 #[.int .i64 n] w fun e w' => e = .returned (.int .u64 m) ∧ w' = w := by
  rcases h with ⟨rfl, rfl⟩ | ⟨rfl, rfl⟩ | ⟨rfl, rfl⟩ | ⟨rfl, rfl⟩ | ⟨rfl, rfl⟩ | ⟨rfl, rfl⟩ | ⟨rfl, rfl⟩ | ⟨rfl, rfl⟩ | ⟨rfl, rfl⟩
  all_goals
    go_enter Try.func116, Try.ntmps116
    go_wp2_with fail
    go_ret
    exact ⟨rfl, rfl⟩

theorem hasAny_at (x m : Int) (w : World) :
    Calls Try.prog 118 #[.int .u64 x, .int .u64 m] w fun e w' => e = .returned (.bool (anyB x m)) ∧ w' = w := by
  go_enter Try.func118, Try.ntmps118
  go_wp2_with fail
  go_ret
  exact ⟨rfl, rfl⟩

theorem canonical_at (x : Int) (w : World) (h0 : 0 ≤ x) (h1 : x ≤ 18446744073709551615) :
    Calls Try.prog 73 #[.int .u64 x] w fun e w' => e = .returned (.bool (canonM x)) ∧ w' = w := by
  have hm : x / 16384 % 1125899906842624 = x / 16384 := Int.emod_eq_of_lt (Int.ediv_nonneg h0 (by omega)) (by omega)
  rw [canonM, hm]
  clear hm
  by_cases ht : x / 16384 = 0
  · have ht' : (x / 16384 == 0) = true := by simp [ht]
    clear ht
    go_enter Try.func73, Try.ntmps73
    go_wp2_with fail
    go_ret
    exact ⟨by simp [ht'], rfl⟩
  · have ht' : (x / 16384 == 0) = false := by simpa using ht
    clear ht
    go_enter Try.func73, Try.ntmps73
    go_wp2_with (go_at_call 116; refine (lowBits_at 50 1125899906842623 _ (by omega)).mono ?_; rintro e w' ⟨rfl, rfl⟩)
    go_ret
    exact ⟨by simp [ht'], rfl⟩

theorem implCanonical_at (x : Int) (w : World) (h0 : 0 ≤ x) (h1 : x ≤ 18446744073709551615) :
    Calls Try.prog 25 #[.int .u64 x] w fun e w' => e = .returned (.bool (canonM x)) ∧ w' = w := by
  go_enter Try.func25, Try.ntmps25
  go_wp2_with fail
  refine (canonical_at x w h0 h1).mono ?_
  rintro e w' ⟨rfl, rfl⟩
  go_wp2_with fail
  go_ret
  exact ⟨rfl, rfl⟩

theorem ppn_at (x : Int) (w : World) (h0 : 0 ≤ x) (h1 : x ≤ 18446744073709551615) :
    Calls Try.prog 121 #[.int .u64 x] w fun e w' => e = .returned (.int .u64 (ppnM x)) ∧ w' = w := by
  have H : Hid (bits .and .u64 (x / 1024) 17592186044415 = ppnM x) := mask_u64 44 (x / 1024) 17592186044415 rfl (by omega) (by omega) (by omega)
  go_enter Try.func121, Try.ntmps121
  go_wp2_with (go_at_call 116; refine (lowBits_at 44 17592186044415 _ (by omega)).mono ?_; rintro e w' ⟨rfl, rfl⟩)
  go_ret
  exact ⟨ret_u64 H.out, rfl⟩

theorem beyondPpn_at (x : Int) (w : World) (h0 : 0 ≤ x) (h1 : x ≤ 18446744073709551615) :
    Calls Try.prog 151 #[.int .u64 x] w fun e w' => e = .returned (.int .u64 (x / 18014398509481984 % 1024)) ∧ w' = w := by
  have H : Hid (x / 18014398509481984 = x / 18014398509481984 % 1024) := show _ = _ by omega
  go_enter Try.func151, Try.ntmps151
  go_wp2_with fail
  go_ret
  exact ⟨ret_u64 H.out, rfl⟩

def soundM (x : Int) : Bool := bitB x 1 && (x / 18014398509481984 % 1024 == 0) && !(bitB x 4 && !bitB x 2)

theorem sound_at (x : Int) (w : World) (h0 : 0 ≤ x) (h1 : x ≤ 18446744073709551615) :
    Calls Try.prog 117 #[.int .u64 x] w fun e w' => e = .returned (.bool (soundM x)) ∧ w' = w := by
  have HV : Hid (anyB x 1 = bitB x 1) := anyB_bit 0 x 1 rfl (by omega) h0 h1
  have HR : Hid (anyB x 2 = bitB x 2) := anyB_bit 1 x 2 rfl (by omega) h0 h1
  have HW : Hid (anyB x 4 = bitB x 4) := anyB_bit 2 x 4 rfl (by omega) h0 h1
  cases hw : bitB x 4 <;> cases hr : bitB x 2 <;> cases hv : bitB x 1
  all_goals
    go_enter Try.func117, Try.ntmps117
    go_wp2_with (first
      | (go_at_call 118; refine (hasAny_at x _ _).mono ?_; rintro e w' ⟨rfl, rfl⟩; first | rw [HW.out, hw] | rw [HR.out, hr] | rw [HV.out, hv])
      | (go_at_call 151; refine (beyondPpn_at x _ h0 h1).mono ?_; rintro e w' ⟨rfl, rfl⟩))
    all_goals
      go_ret
      exact ⟨ret_bool (by simp [soundM, hw, hr, hv]; try assumption), rfl⟩

theorem aligned_at (x level : Int) (w : World) (h0 : 0 ≤ x) (h1 : x ≤ 18446744073709551615) (hl : level = 0 ∨ level = 1 ∨ level = 2) :
    Calls Try.prog 119 #[.int .u64 x, .int .i64 level] w fun e w' => e = .returned (.bool (ppnM x % pow3 level == 0)) ∧ w' = w := by
  have hpp : 0 ≤ ppnM x ∧ ppnM x < 17592186044416 := ⟨Int.emod_nonneg _ (by omega), Int.emod_lt_of_pos _ (by omega)⟩
  have HP : ∀ w, Hid (Calls Try.prog 121 #[.int .u64 x] w fun e w' => e = .returned (.int .u64 (ppnM x)) ∧ w' = w) := fun w => ppn_at x w h0 h1
  generalize ppnM x = p at *
  rcases hl with rfl | rfl | rfl
  · have H : Hid ((bits .and .u64 p 0 == 0) = (p % pow3 0 == 0)) := by
      show _ = _
      rw [mask_u64 0 p 0 rfl (by omega) hpp.1 (by omega)]; rfl
    go_enter Try.func119, Try.ntmps119
    go_wp2_with (first
      | (go_at_call 121; refine ((HP _).out).mono ?_; rintro e w' ⟨rfl, rfl⟩)
      | (go_at_call 116; refine (lowBits_at 0 0 _ (by omega)).mono ?_; rintro e w' ⟨rfl, rfl⟩))
    go_ret
    exact ⟨ret_bool H.out, rfl⟩
  · have H : Hid ((bits .and .u64 p 7 == 0) = (p % pow3 1 == 0)) := by
      show _ = _
      rw [mask_u64 3 p 7 rfl (by omega) hpp.1 (by omega)]; rfl
    go_enter Try.func119, Try.ntmps119
    go_wp2_with (first
      | (go_at_call 121; refine ((HP _).out).mono ?_; rintro e w' ⟨rfl, rfl⟩)
      | (go_at_call 116; refine (lowBits_at 3 7 _ (by omega)).mono ?_; rintro e w' ⟨rfl, rfl⟩))
    go_ret
    exact ⟨ret_bool H.out, rfl⟩
  · have H : Hid ((bits .and .u64 p 63 == 0) = (p % pow3 2 == 0)) := by
      show _ = _
      rw [mask_u64 6 p 63 rfl (by omega) hpp.1 (by omega)]; rfl
    go_enter Try.func119, Try.ntmps119
    go_wp2_with (first
      | (go_at_call 121; refine ((HP _).out).mono ?_; rintro e w' ⟨rfl, rfl⟩)
      | (go_at_call 116; refine (lowBits_at 6 63 _ (by omega)).mono ?_; rintro e w' ⟨rfl, rfl⟩))
    go_ret
    exact ⟨ret_bool H.out, rfl⟩

theorem knownLevel_at (l : Int) (w : World) :
    Calls Try.prog 80 #[.int .i64 l] w fun e w' => e = .returned (.bool (decide (0 ≤ l ∧ l ≤ 2))) ∧ w' = w := by
  by_cases h : 0 ≤ l
  · go_enter Try.func80, Try.ntmps80
    go_wp2_with fail
    go_ret
    exact ⟨ret_bool (by simp [h]), rfl⟩
  · go_enter Try.func80, Try.ntmps80
    go_wp2_with fail
    go_ret
    exact ⟨ret_bool (by simp; omega), rfl⟩

set_option maxHeartbeats 800000 in
theorem kind_at (x level : Int) (w : World) (h0 : 0 ≤ x) (h1 : x ≤ 18446744073709551615) :
    Calls Try.prog 76 #[.int .u64 x, .int .i64 level] w fun e w' => e = .returned (.int .i64 (kindM x level)) ∧ w' = w := by
  by_cases hlev : 0 ≤ level ∧ level ≤ 2
  · have hk : decide (0 ≤ level ∧ level ≤ 2) = true := by simpa using hlev
    have HK : Hid (decide (0 ≤ level ∧ level ≤ 2) = true) := hk
    have hl : level = 0 ∨ level = 1 ∨ level = 2 := by omega
    clear hk hlev
    have HR : Hid (anyB x 14 = (bitB x 2 || bitB x 4 || bitB x 8)) := anyB_rwx x h0 h1
    have HU : Hid (anyB x 208 = (bitB x 16 || bitB x 64 || bitB x 128)) := anyB_uad x h0 h1
    cases hs : soundM x
    · have HE : Hid (kindM x level = 0) := by
        show _ = _
        simp only [kindM]
        rw [if_pos]
        simp only [soundM] at hs
        cases hv : bitB x 1
        · simp
        · rw [hv] at hs
          by_cases hb : 0 < x / 18014398509481984 % 1024
          · simp [hb]
          · have hb' : x / 18014398509481984 % 1024 = 0 := by omega
            rw [hb'] at hs ⊢
            simp at hs
            simp [hs]
      go_enter Try.func76, Try.ntmps76
      go_wp2_with (first
        | (go_at_call 80; refine (knownLevel_at level _).mono ?_; rintro e w' ⟨rfl, rfl⟩; rw [HK.out])
        | (go_at_call 117; refine (sound_at x _ h0 h1).mono ?_; rintro e w' ⟨rfl, rfl⟩; rw [hs]))
      go_ret
      exact ⟨ret_i64 HE.out.symm, rfl⟩
    · have hn : ¬ (level < 0 ∨ 2 < level ∨ bitB x 1 = false ∨ 0 < x / 18014398509481984 % 1024 ∨ (bitB x 4 = true ∧ bitB x 2 = false)) := by
        simp only [soundM, Bool.and_eq_true, beq_iff_eq, Bool.not_eq_true', Bool.and_eq_false_iff, Bool.not_eq_false'] at hs
        obtain ⟨⟨a1, a2⟩, a3⟩ := hs
        rw [a1, a2]
        rcases a3 with a3 | a3
        · simp [a3]; omega
        · simp [a3]; omega
      have HE : Hid (kindM x level = if bitB x 2 = false ∧ bitB x 4 = false ∧ bitB x 8 = false then (if level = 0 ∨ bitB x 16 = true ∨ bitB x 64 = true ∨ bitB x 128 = true then 0 else 1) else if 0 < ppnM x % pow3 level then 0 else 2) := by
        show _ = _
        rw [kindM, if_neg hn]
      clear hn
      cases hr : (bitB x 2 || bitB x 4 || bitB x 8)
      · simp only [Bool.or_eq_false_iff] at hr
        have HE2 : Hid (kindM x level = if level = 0 ∨ bitB x 16 = true ∨ bitB x 64 = true ∨ bitB x 128 = true then 0 else 1) := by
          show _ = _
          rw [HE.out, if_pos ⟨hr.1.1, hr.1.2, hr.2⟩]
        clear HE
        have HR' : Hid (anyB x 14 = false) := by show _ = _; rw [HR.out, hr.1.1, hr.1.2, hr.2]; rfl
        clear HR hr
        by_cases hz : level = 0
        · subst hz
          go_enter Try.func76, Try.ntmps76
          go_wp2_with (first
            | (go_at_call 80; refine (knownLevel_at 0 _).mono ?_; rintro e w' ⟨rfl, rfl⟩; rw [HK.out])
            | (go_at_call 117; refine (sound_at x _ h0 h1).mono ?_; rintro e w' ⟨rfl, rfl⟩; rw [hs])
            | (go_at_call 118; refine (hasAny_at x _ _).mono ?_; rintro e w' ⟨rfl, rfl⟩; rw [HR'.out]))
          go_ret
          exact ⟨ret_i64 (by rw [HE2.out]; simp), rfl⟩
        · have hz' : (level == 0) = false := by simpa using hz
          cases hu : (bitB x 16 || bitB x 64 || bitB x 128)
          · have HE3 : Hid (kindM x level = 1) := by
              show _ = _
              simp only [Bool.or_eq_false_iff] at hu
              rw [HE2.out, hu.1.1, hu.1.2, hu.2]
              simp [hz]
            go_enter Try.func76, Try.ntmps76
            go_wp2_with (first
              | (go_at_call 80; refine (knownLevel_at level _).mono ?_; rintro e w' ⟨rfl, rfl⟩; rw [HK.out])
              | (go_at_call 117; refine (sound_at x _ h0 h1).mono ?_; rintro e w' ⟨rfl, rfl⟩; rw [hs])
              | (go_at_call 118; refine (hasAny_at x _ _).mono ?_; rintro e w' ⟨rfl, rfl⟩; first | rw [HR'.out] | rw [HU.out, hu]))
            go_ret
            exact ⟨ret_i64 HE3.out.symm, rfl⟩
          · have HE3 : Hid (kindM x level = 0) := by
              show _ = _
              simp only [Bool.or_eq_true] at hu
              rw [HE2.out, if_pos]
              rcases hu with (hu | hu) | hu <;> simp [hu]
            go_enter Try.func76, Try.ntmps76
            go_wp2_with (first
              | (go_at_call 80; refine (knownLevel_at level _).mono ?_; rintro e w' ⟨rfl, rfl⟩; rw [HK.out])
              | (go_at_call 117; refine (sound_at x _ h0 h1).mono ?_; rintro e w' ⟨rfl, rfl⟩; rw [hs])
              | (go_at_call 118; refine (hasAny_at x _ _).mono ?_; rintro e w' ⟨rfl, rfl⟩; first | rw [HR'.out] | rw [HU.out, hu]))
            go_ret
            exact ⟨ret_i64 HE3.out.symm, rfl⟩
      · have HR' : Hid (anyB x 14 = true) := by show _ = _; rw [HR.out, hr]
        have HE2 : Hid (kindM x level = if 0 < ppnM x % pow3 level then 0 else 2) := by
          show _ = _
          rw [HE.out, if_neg]
          rintro ⟨q1, q2, q3⟩
          rw [q1, q2, q3] at hr
          cases hr
        clear HE HR hr
        have hnn : 0 ≤ ppnM x % pow3 level := by
          apply Int.emod_nonneg
          rcases hl with rfl | rfl | rfl <;> decide
        cases ha : (ppnM x % pow3 level == 0)
        · have HE3 : Hid (kindM x level = 0) := by
            show _ = _
            have : ppnM x % pow3 level ≠ 0 := by simpa using ha
            rw [HE2.out, if_pos (by omega)]
          clear hnn
          go_enter Try.func76, Try.ntmps76
          go_wp2_with (first
            | (go_at_call 80; refine (knownLevel_at level _).mono ?_; rintro e w' ⟨rfl, rfl⟩; rw [HK.out])
            | (go_at_call 117; refine (sound_at x _ h0 h1).mono ?_; rintro e w' ⟨rfl, rfl⟩; rw [hs])
            | (go_at_call 118; refine (hasAny_at x _ _).mono ?_; rintro e w' ⟨rfl, rfl⟩; rw [HR'.out])
            | (go_at_call 119; refine (aligned_at x level _ h0 h1 hl).mono ?_; rintro e w' ⟨rfl, rfl⟩; rw [ha]))
          go_ret
          exact ⟨ret_i64 HE3.out.symm, rfl⟩
        · have HE3 : Hid (kindM x level = 2) := by
            show _ = _
            have : ppnM x % pow3 level = 0 := by simpa using ha
            rw [HE2.out, if_neg (by omega)]
          clear hnn
          go_enter Try.func76, Try.ntmps76
          go_wp2_with (first
            | (go_at_call 80; refine (knownLevel_at level _).mono ?_; rintro e w' ⟨rfl, rfl⟩; rw [HK.out])
            | (go_at_call 117; refine (sound_at x _ h0 h1).mono ?_; rintro e w' ⟨rfl, rfl⟩; rw [hs])
            | (go_at_call 118; refine (hasAny_at x _ _).mono ?_; rintro e w' ⟨rfl, rfl⟩; rw [HR'.out])
            | (go_at_call 119; refine (aligned_at x level _ h0 h1 hl).mono ?_; rintro e w' ⟨rfl, rfl⟩; rw [ha]))
          go_ret
          exact ⟨ret_i64 HE3.out.symm, rfl⟩
  · have HK : Hid (decide (0 ≤ level ∧ level ≤ 2) = false) := by show _ = _; simpa using hlev
    have HE : Hid (kindM x level = 0) := by
      show _ = _
      rw [kindM, if_pos (by omega)]
    clear hlev
    go_enter Try.func76, Try.ntmps76
    go_wp2_with (go_at_call 80; refine (knownLevel_at level _).mono ?_; rintro e w' ⟨rfl, rfl⟩; rw [HK.out])
    go_ret
    exact ⟨ret_i64 HE.out.symm, rfl⟩

theorem implPteKind_at (x level : Int) (w : World) (h0 : 0 ≤ x) (h1 : x ≤ 18446744073709551615) :
    Calls Try.prog 27 #[.int .u64 x, .int .i64 level] w fun e w' => e = .returned (.int .i64 (kindM x level)) ∧ w' = w := by
  go_enter Try.func27, Try.ntmps27
  go_wp2_with fail
  refine (kind_at x level w h0 h1).mono ?_
  rintro e w' ⟨rfl, rfl⟩
  go_wp2_with fail
  go_ret
  exact ⟨rfl, rfl⟩

end Go.Proofs.Ythekickjjaleaab

/- The program's chapter 4: tags, address spaces, what a cache of leaves or of pointers may hold. -/
namespace Go.Proofs.Ythekickjjaleaab
open Go.RowKit
set_option linter.unusedVariables false

theorem tagMask_at (level : Int) (w : World) (hl : level = 0 ∨ level = 1 ∨ level = 2) :
    Calls Try.prog 153 #[.int .i64 level] w fun e w' => e = .returned (.int .u64 (pow9 level - 1)) ∧ w' = w := by
  rcases hl with rfl | rfl | rfl
  all_goals
    go_enter Try.func153, Try.ntmps153
    go_wp2_with (go_at_call 116; refine (lowBits_at 15 32767 _ (by omega)).mono ?_; rintro e w' ⟨rfl, rfl⟩)
    go_ret
    exact ⟨ret_u64 (by decide), rfl⟩

theorem tag_at (va level : Int) (w : World) (hv0 : 0 ≤ va) (hv1 : va ≤ 18446744073709551615) (hl : level = 0 ∨ level = 1 ∨ level = 2) :
    Calls Try.prog 154 #[.int .u64 va, .int .i64 level] w fun e w' => e = .returned (.int .u64 (tagM va level)) ∧ ∃ n, w' = w.drewN n := by
  rcases hl with rfl | rfl | rfl
  · have H : Hid (bits .and .u64 (va / 64) 511 = tagM va 0) := mask_u64 9 (va / 64) 511 rfl (by omega) (by omega) (by omega)
    go_enter Try.func154, Try.ntmps154
    go_wp2_with fail
    go_quiet ((go_at_call 153; exact Calls.quiet_of_same (tagMask_at 0 _ (by omega))))
    go_wp2_with fail
    go_ret
    exact ⟨ret_u64 H.out, nq, rfl⟩
  · have H : Hid (bits .and .u64 (va / 512) 63 = tagM va 1) := mask_u64 6 (va / 512) 63 rfl (by omega) (by omega) (by omega)
    go_enter Try.func154, Try.ntmps154
    go_wp2_with fail
    go_quiet ((go_at_call 153; exact Calls.quiet_of_same (tagMask_at 1 _ (by omega))))
    go_wp2_with fail
    go_ret
    exact ⟨ret_u64 H.out, nq, rfl⟩
  · have H : Hid (bits .and .u64 (va / 4096) 7 = tagM va 2) := mask_u64 3 (va / 4096) 7 rfl (by omega) (by omega) (by omega)
    go_enter Try.func154, Try.ntmps154
    go_wp2_with fail
    go_quiet ((go_at_call 153; exact Calls.quiet_of_same (tagMask_at 2 _ (by omega))))
    go_wp2_with fail
    go_ret
    exact ⟨ret_u64 H.out, nq, rfl⟩


theorem goodAtL_at (x level : Int) (w : World) (h0 : 0 ≤ x) (h1 : x ≤ 18446744073709551615) :
    Calls Try.prog 178 #[.int .u64 x, .int .i64 level] w fun e w' => e = .returned (.bool (kindM x level == 2)) ∧ w' = w := by
  go_enter Try.func178, Try.ntmps178
  go_wp2_with (go_at_call 76; refine (kind_at x level _ h0 h1).mono ?_; rintro e w' ⟨rfl, rfl⟩)
  go_ret
  exact ⟨ret_bool (by simp), rfl⟩

theorem goodAtP_at (x level : Int) (w : World) (h0 : 0 ≤ x) (h1 : x ≤ 18446744073709551615) :
    Calls Try.prog 176 #[.int .u64 x, .int .i64 level] w fun e w' => e = .returned (.bool (kindM x level == 1)) ∧ w' = w := by
  go_enter Try.func176, Try.ntmps176
  go_wp2_with (go_at_call 76; refine (kind_at x level _ h0 h1).mono ?_; rintro e w' ⟨rfl, rfl⟩)
  go_ret
  exact ⟨ret_bool (by simp), rfl⟩

theorem knownPick_at (k : Int) (w : World) :
    Calls Try.prog 104 #[.int .i64 k] w fun e w' => e = .returned (.bool (decide (0 ≤ k ∧ k ≤ 255))) ∧ w' = w := by
  by_cases h : 0 ≤ k
  · go_enter Try.func104, Try.ntmps104
    go_wp2_with fail
    go_ret
    exact ⟨ret_bool (by simp [h]), rfl⟩
  · go_enter Try.func104, Try.ntmps104
    go_wp2_with fail
    go_ret
    exact ⟨ret_bool (by simp; omega), rfl⟩

end Go.Proofs.Ythekickjjaleaab

/- The slots of the program's caches: an entry's cells in another order. No program is named here. -/
namespace Go.Proofs.Ythekickjjaleaab
open Go.RowKit
set_option linter.unusedVariables false

def slotC (e : EntM) : List Value := [.int .i64 e.level, .int .u64 e.tag, .int .u64 e.asid, .bool e.glob, .bool e.valid, .int .u64 e.pte]
def slotV (e : EntM) : Value := .agg #[.int .i64 e.level, .int .u64 e.tag, .int .u64 e.asid, .bool e.glob, .bool e.valid, .int .u64 e.pte]

def slotsC : List EntM → List Value
  | [] => []
  | e :: r => slotC e ++ slotsC r

theorem slotsC_len : ∀ es : List EntM, (slotsC es).length = es.length * 6
  | [] => rfl
  | e :: r => by simp [slotsC, slotC, slotsC_len r]; omega

theorem slotsC_at : ∀ (es : List EntM) (i j : Nat) (hi : i < es.length), j < 6 → (slotsC es)[i * 6 + j]? = (slotC es[i])[j]?
  | e :: r, 0, j, hi, hj => by
    simp only [slotsC, List.getElem_cons_zero, Nat.zero_mul, Nat.zero_add]
    rw [List.getElem?_append_left (by simp [slotC]; exact hj)]
  | e :: r, i + 1, j, hi, hj => by
    simp only [slotsC, List.getElem_cons_succ]
    rw [List.getElem?_append_right (by simp [slotC]; omega)]
    rw [show (i + 1) * 6 + j - (slotC e).length = i * 6 + j by simp [slotC]; omega]
    exact slotsC_at r i j (by simpa using hi) hj

theorem slotsC_set : ∀ (l : List EntM) (k : Nat) (e : EntM), k < l.length → slotsC (l.set k e) = ((((((slotsC l).set (k * 6) (.int .i64 e.level)).set (k * 6 + 1) (.int .u64 e.tag)).set (k * 6 + 2) (.int .u64 e.asid)).set (k * 6 + 3) (.bool e.glob)).set (k * 6 + 4) (.bool e.valid)).set (k * 6 + 5) (.int .u64 e.pte)
  | x :: r, 0, e, h => by simp [slotsC, slotC]
  | x :: r, k + 1, e, h => by
    have ih := slotsC_set r k e (by simpa using h)
    rw [List.set_cons_succ]
    simp only [slotsC, ih]
    rw [show (k + 1) * 6 = (slotC x).length + k * 6 by simp [slotC]; omega]
    simp only [Nat.add_assoc]
    rw [List.set_append_right _ _ (by simp [slotC]), List.set_append_right _ _ (by omega), List.set_append_right _ _ (by omega), List.set_append_right _ _ (by omega), List.set_append_right _ _ (by omega), List.set_append_right _ _ (by omega)]
    simp

theorem slot_cell {e : TypeId} {w : World} {base g n cap : Nat} {es : List EntM} (h : w.ownsRow base e 6 (.slice (some ⟨g, 0, none⟩) n cap) n (slotsC es)) (hn : es.length = n) (k : Nat) (x : EntM) (hx : es[k]? = some x) (j : Nat) (v : Value) (hj : j < 6) (hv : (slotC x)[j]? = some v) :
    w.cell? ⟨g, k * 6 + j, none⟩ = some v := by
  have hk : k < es.length := (List.getElem?_eq_some_iff.1 hx).1
  refine own_cell h _ _ ?_
  rw [slotsC_at es k j hk hj]
  obtain ⟨_, rfl⟩ := List.getElem?_eq_some_iff.1 hx
  exact hv

/-- The first k entries, the rest empty. -/
def firstN (k n : Nat) (es : List EntM) : List EntM := es.take k ++ List.replicate (n - k) ent0

theorem firstN_len (k : Nat) (es : List EntM) (hk : k ≤ es.length) : (firstN k es.length es).length = es.length := by
  simp [firstN]; omega

theorem firstN_next (k : Nat) (es : List EntM) (x : EntM) (hx : es[k]? = some x) : firstN (k + 1) es.length es = (firstN k es.length es).set k x := by
  obtain ⟨hk, rfl⟩ := List.getElem?_eq_some_iff.1 hx
  unfold firstN
  apply List.ext_getElem?
  intro j
  rw [List.getElem?_set]
  by_cases hj : k = j
  · subst hj
    rw [if_pos rfl, if_pos (by simp; omega), List.getElem?_append_left (by simp; omega)]
    simp [hk]
  · rw [if_neg hj]
    by_cases hlt : j < k
    · rw [List.getElem?_append_left (by simp; omega), List.getElem?_append_left (by simp; omega)]
      simp [hlt, show j < k + 1 by omega]
    · rw [List.getElem?_append_right (by simp; omega), List.getElem?_append_right (by simp; omega)]
      simp only [List.length_take, List.getElem?_replicate]
      rw [show min (k + 1) es.length = k + 1 by omega, show min k es.length = k by omega]
      by_cases hh : j < es.length
      · rw [if_pos (by omega), if_pos (by omega)]
      · rw [if_neg (by omega), if_neg (by omega)]

theorem firstN_zero (k : Nat) (es : List EntM) (hx : es[k]? = some ent0) : firstN (k + 1) es.length es = firstN k es.length es := by
  rw [firstN_next k es ent0 hx]
  have hk : k < es.length := (List.getElem?_eq_some_iff.1 hx).1
  apply List.ext_getElem?
  intro j
  rw [List.getElem?_set]
  by_cases hj : k = j
  · subst hj
    rw [if_pos rfl, if_pos (by rw [firstN_len _ _ (by omega)]; exact hk)]
    unfold firstN
    rw [List.getElem?_append_right (by simp; omega)]
    simp only [List.length_take, List.getElem?_replicate]
    rw [if_pos (by omega)]
  · rw [if_neg hj]

theorem firstN_all (es : List EntM) : firstN es.length es.length es = es := by
  simp [firstN]

theorem slotsC_rep : ∀ n : Nat, slotsC (List.replicate n ent0) = (List.replicate n (slotC ent0)).flatten
  | 0 => rfl
  | n + 1 => by rw [List.replicate_succ, List.replicate_succ, slotsC, slotsC_rep n]; rfl

theorem firstN_start (n : Nat) (es : List EntM) : firstN 0 n es = List.replicate n ent0 := by simp [firstN]

theorem belS6 {B : Nat} {a w : World} {g : Nat} (h : Below B a w) (hg : B ≤ g) (x y z u v t : Value) : Below B a ((((((w.setCell ⟨g, 0, none⟩ x).setCell ⟨g, 1, none⟩ y).setCell ⟨g, 2, none⟩ z).setCell ⟨g, 3, none⟩ u).setCell ⟨g, 4, none⟩ v).setCell ⟨g, 5, none⟩ t) :=
  (((bel3 h hg x y z).setCell (p := ⟨g, 3, none⟩) hg u).setCell (p := ⟨g, 4, none⟩) hg v).setCell (p := ⟨g, 5, none⟩) hg t

theorem six_at {v : World} {p : Nat} {T : TypeId} {a b c d e f : Value} (h : v.heap[p]? = some (.cells #[a, b, c, d, e, f] T (0, 0))) :
    (v.cell? ⟨p, 0, none⟩ = some a ∧ v.cell? ⟨p, 1, none⟩ = some b ∧ v.cell? ⟨p, 2, none⟩ = some c ∧ v.cell? ⟨p, 3, none⟩ = some d ∧ v.cell? ⟨p, 4, none⟩ = some e ∧ v.cell? ⟨p, 5, none⟩ = some f) ∧
      (v.frozen? ⟨p, 0, none⟩ = false ∧ v.frozen? ⟨p, 1, none⟩ = false ∧ v.frozen? ⟨p, 2, none⟩ = false ∧ v.frozen? ⟨p, 3, none⟩ = false ∧ v.frozen? ⟨p, 4, none⟩ = false ∧ v.frozen? ⟨p, 5, none⟩ = false) := by
  simp [World.cell?, World.frozen?, h]

end Go.Proofs.Ythekickjjaleaab
