import Derived.Test.YthekickjjaleaacGreatPack01
import Derived.Test.YthekickjjaleaacGreatPack02
import Derived.Test.YthekickjjaleaacGreatPack03
/- Bits of unsigned numbers as plain mathematics: single bits, several bits, replacing the lowest bits. -/
namespace Go.Proofs.YthekickjjaleaacGreat
set_option linter.unusedVariables false

theorem nat_and_pow (a k : Nat) : (a &&& 2 ^ k != 0) = (a / 2 ^ k % 2 == 1) := by
  have e : (a / 2 ^ k % 2 == 1) = a.testBit k := by rw [Nat.testBit_eq_decide_div_mod_eq]; rfl
  rw [e]
  cases h : a.testBit k
  · have : a &&& 2 ^ k = 0 := by
      apply Nat.eq_of_testBit_eq
      intro i
      rw [Nat.testBit_and, Nat.testBit_two_pow, Nat.zero_testBit]
      by_cases hi : k = i
      · subst hi; simp [h]
      · simp [hi]
    simp [this]
  · have : a &&& 2 ^ k ≠ 0 := by
      intro h0
      have := congrArg (fun n => n.testBit k) h0
      simp [Nat.testBit_and, h] at this
    simpa using this

theorem nat_and_or (a m n : Nat) : (a &&& (m ||| n) != 0) = ((a &&& m != 0) || (a &&& n != 0)) := by
  rw [Nat.and_or_distrib_left]
  cases h : (a &&& m != 0) <;> cases h' : (a &&& n != 0) <;> simp_all [Nat.or_eq_zero_iff]

/-- Some bit of x is among those of m. -/
def anyB (x m : Int) : Bool := bits .and .u64 x m != 0

theorem anyB_nat (a m : Nat) (ha : a < 18446744073709551616) (hm : m < 18446744073709551616) : anyB a m = (a &&& m != 0) := by
  rw [anyB, u64_and_nat a m ha hm]
  cases h : (a &&& m != 0)
  · simp at h; simp [h]
  · simp at h; simp; omega

theorem anyB_bit (k : Nat) (x p : Int) (hp : p = 2 ^ k) (hk : p < 18446744073709551616) (h0 : 0 ≤ x) (h1 : x ≤ 18446744073709551615) : anyB x p = bitB x p := by
  obtain ⟨a, rfl⟩ := Int.eq_ofNat_of_zero_le h0
  have e : p = ((2 ^ k : Nat) : Int) := by rw [hp]; push_cast; rfl
  rw [e] at hk ⊢
  rw [anyB_nat a (2 ^ k) (by omega) (by omega), nat_and_pow, bitB]
  rw [show ((a : Int) / ((2 ^ k : Nat) : Int) % 2) = ((a / 2 ^ k % 2 : Nat) : Int) by omega]
  generalize a / 2 ^ k % 2 = t
  rw [Bool.eq_iff_iff]
  simp only [beq_iff_eq]
  omega

theorem anyB_rwx (x : Int) (h0 : 0 ≤ x) (h1 : x ≤ 18446744073709551615) : anyB x 14 = (bitB x 2 || bitB x 4 || bitB x 8) := by
  rw [← anyB_bit 1 x 2 rfl (by omega) h0 h1, ← anyB_bit 2 x 4 rfl (by omega) h0 h1, ← anyB_bit 3 x 8 rfl (by omega) h0 h1]
  obtain ⟨a, rfl⟩ := Int.eq_ofNat_of_zero_le h0
  rw [show (14 : Int) = ((14 : Nat) : Int) from rfl, show (2 : Int) = ((2 : Nat) : Int) from rfl, show (4 : Int) = ((4 : Nat) : Int) from rfl, show (8 : Int) = ((8 : Nat) : Int) from rfl]
  rw [anyB_nat a 14 (by omega) (by omega), anyB_nat a 2 (by omega) (by omega), anyB_nat a 4 (by omega) (by omega), anyB_nat a 8 (by omega) (by omega)]
  rw [← nat_and_or, ← nat_and_or]
  rfl

theorem anyB_uad (x : Int) (h0 : 0 ≤ x) (h1 : x ≤ 18446744073709551615) : anyB x 208 = (bitB x 16 || bitB x 64 || bitB x 128) := by
  rw [← anyB_bit 4 x 16 rfl (by omega) h0 h1, ← anyB_bit 6 x 64 rfl (by omega) h0 h1, ← anyB_bit 7 x 128 rfl (by omega) h0 h1]
  obtain ⟨a, rfl⟩ := Int.eq_ofNat_of_zero_le h0
  rw [show (208 : Int) = ((208 : Nat) : Int) from rfl, show (16 : Int) = ((16 : Nat) : Int) from rfl, show (64 : Int) = ((64 : Nat) : Int) from rfl, show (128 : Int) = ((128 : Nat) : Int) from rfl]
  rw [anyB_nat a 208 (by omega) (by omega), anyB_nat a 16 (by omega) (by omega), anyB_nat a 64 (by omega) (by omega), anyB_nat a 128 (by omega) (by omega)]
  rw [← nat_and_or, ← nat_and_or]
  rfl

/-- The lowest k bits cleared. -/
theorem clear_u64 (k : Nat) (x m P : Int) (hP : P = 2 ^ k) (hm : m = P - 1) (hk : m < 18446744073709551616) (h0 : 0 ≤ x) (h1 : x ≤ 18446744073709551615) : bits .andNot .u64 x m = x / P * P := by
  obtain ⟨a, rfl⟩ := Int.eq_ofNat_of_zero_le h0
  have hp : 1 ≤ (2 ^ k : Nat) := Nat.one_le_two_pow
  have eP : P = ((2 ^ k : Nat) : Int) := by rw [hP]; push_cast; rfl
  have e : m = ((2 ^ k - 1 : Nat) : Int) := by rw [hm, eP]; omega
  rw [e] at hk ⊢
  rw [eP, u64_andNot_nat a (2 ^ k - 1) (by omega) (by omega)]
  rw [show ((a : Int) / ((2 ^ k : Nat) : Int) * ((2 ^ k : Nat) : Int)) = ((a / 2 ^ k * 2 ^ k : Nat) : Int) by push_cast; rfl]
  congr 1
  apply Nat.eq_of_testBit_eq
  intro i
  have hk64 : k ≤ 64 := by
    rcases Nat.lt_or_ge 64 k with h | h
    · have : 2 ^ 65 ≤ 2 ^ k := Nat.pow_le_pow_right (by omega) h
      omega
    · exact h
  rw [Nat.testBit_and, Nat.testBit_mul_two_pow, Nat.testBit_div_two_pow]
  by_cases hi : k ≤ i
  · by_cases hi' : i < 64
    · have : (18446744073709551615 - (2 ^ k - 1)).testBit i = true := by
        rw [show 18446744073709551615 - (2 ^ k - 1) = 2 ^ 64 - (2 ^ k - 1 + 1) by omega, Nat.testBit_two_pow_sub_succ (by omega), Nat.testBit_two_pow_sub_one]
        simp
        omega
      rw [this]
      simp [hi, show i - k + k = i by omega]
    · have : a.testBit i = false := Nat.testBit_lt_two_pow (Nat.lt_of_lt_of_le (by omega : a < 2 ^ 64) (Nat.pow_le_pow_right (by omega) (by omega)))
      simp [this, show i - k + k = i by omega]
  · have : (18446744073709551615 - (2 ^ k - 1)).testBit i = false := by
      rw [show 18446744073709551615 - (2 ^ k - 1) = 2 ^ 64 - (2 ^ k - 1 + 1) by omega, Nat.testBit_two_pow_sub_succ (by omega), Nat.testBit_two_pow_sub_one]
      simp
      omega
    simp [this, hi]

/-- The lowest bits of one number, the upper ones of another. -/
theorem splice_u64 (k : Nat) (x y m P : Int) (hP : P = 2 ^ k) (hm : m = P - 1) (hk : m < 18446744073709551616) (h0 : 0 ≤ x) (h1 : x ≤ 18446744073709551615) (g0 : 0 ≤ y) (g1 : y ≤ 18446744073709551615) :
    bits .or .u64 (bits .andNot .u64 x m) (bits .and .u64 y m) = x / P * P + y % P := by
  have hp : 1 ≤ P := by rw [hP]; exact Int.pow_pos (by omega : (0 : Int) < 2)
  rw [clear_u64 k x m P hP hm hk h0 h1, mask_u64 k y m (by rw [hm, hP]) hk g0 g1, ← hP]
  have a1 : 0 ≤ y % P := Int.emod_nonneg _ (by omega)
  have a2 : y % P < P := Int.emod_lt_of_pos _ (by omega)
  have a3 : 0 ≤ x / P := Int.ediv_nonneg h0 (by omega)
  have a4 : x / P * P ≤ x := Int.ediv_mul_le _ (by omega)
  have a5 : 0 ≤ x / P * P := Int.mul_nonneg a3 (by omega)
  have hc : bits .or .u64 (x / P * P) (y % P) = bits .or .u64 (y % P) (x / P * P) := by
    rw [u64_or _ _ a5 (by omega) a1 (by omega), u64_or _ _ a1 (by omega) a5 (by omega), Nat.or_comm]
  rw [hc, or_shift k P (y % P) (x / P) hP a1 a2 a3 (by omega) (by omega)]
  omega

end Go.Proofs.YthekickjjaleaacGreat

/- The program's chapter 2: lowBits, canonical, index, the entry's methods, Canonical, PteKind, Granted, PhysOf. -/
namespace Go.Proofs.YthekickjjaleaacGreat
open Go.RowKit
set_option linter.unusedVariables false

theorem lowBits_at (n m : Int) (w : World) (h : (n = 0 ∧ m = 0) ∨ (n = 3 ∧ m = 7) ∨ (n = 6 ∧ m = 63) ∨ (n = 9 ∧ m = 511) ∨ (n = 12 ∧ m = 4095) ∨ (n = 44 ∧ m = 17592186044415) ∨ (n = 50 ∧ m = 1125899906842623) ∨ (n = 15 ∧ m = 32767) ∨ (n = 16 ∧ m = 65535)) :
    Calls Tryz.prog 153 #[.int .i64 n] w fun e w' => e = .returned (.int .u64 m) ∧ w' = w := by
  rcases h with ⟨rfl, rfl⟩ | ⟨rfl, rfl⟩ | ⟨rfl, rfl⟩ | ⟨rfl, rfl⟩ | ⟨rfl, rfl⟩ | ⟨rfl, rfl⟩ | ⟨rfl, rfl⟩ | ⟨rfl, rfl⟩ | ⟨rfl, rfl⟩
  all_goals
    go_enter Tryz.func153, Tryz.ntmps153
    go_wp2_with fail
    go_ret
    exact ⟨rfl, rfl⟩

theorem hasAny_at (x m : Int) (w : World) :
    Calls Tryz.prog 187 #[.int .u64 x, .int .u64 m] w fun e w' => e = .returned (.bool (anyB x m)) ∧ w' = w := by
  go_enter Tryz.func187, Tryz.ntmps187
  go_wp2_with fail
  go_ret
  exact ⟨rfl, rfl⟩

theorem canonical_at (x : Int) (w : World) (h0 : 0 ≤ x) (h1 : x ≤ 18446744073709551615) :
    Calls Tryz.prog 104 #[.int .u64 x] w fun e w' => e = .returned (.bool (canonM x)) ∧ w' = w := by
  have hm : x / 16384 % 1125899906842624 = x / 16384 := Int.emod_eq_of_lt (Int.ediv_nonneg h0 (by omega)) (by omega)
  rw [canonM, hm]
  clear hm
  by_cases ht : x / 16384 = 0
  · have ht' : (x / 16384 == 0) = true := by simp [ht]
    clear ht
    go_enter Tryz.func104, Tryz.ntmps104
    go_wp2_with fail
    go_ret
    exact ⟨by simp [ht'], rfl⟩
  · have ht' : (x / 16384 == 0) = false := by simpa using ht
    clear ht
    go_enter Tryz.func104, Tryz.ntmps104
    go_wp2_with (go_at_call 153; refine (lowBits_at 50 1125899906842623 _ (by omega)).mono ?_; rintro e w' ⟨rfl, rfl⟩)
    go_ret
    exact ⟨by simp [ht'], rfl⟩


theorem ppn_at (x : Int) (w : World) (h0 : 0 ≤ x) (h1 : x ≤ 18446744073709551615) :
    Calls Tryz.prog 200 #[.int .u64 x] w fun e w' => e = .returned (.int .u64 (ppnM x)) ∧ w' = w := by
  have H : Hid (bits .and .u64 (x / 1024) 17592186044415 = ppnM x) := mask_u64 44 (x / 1024) 17592186044415 rfl (by omega) (by omega) (by omega)
  go_enter Tryz.func200, Tryz.ntmps200
  go_wp2_with (go_at_call 153; refine (lowBits_at 44 17592186044415 _ (by omega)).mono ?_; rintro e w' ⟨rfl, rfl⟩)
  go_ret
  exact ⟨ret_u64 H.out, rfl⟩

theorem beyondPpn_at (x : Int) (w : World) (h0 : 0 ≤ x) (h1 : x ≤ 18446744073709551615) :
    Calls Tryz.prog 222 #[.int .u64 x] w fun e w' => e = .returned (.int .u64 (x / 18014398509481984 % 1024)) ∧ w' = w := by
  have H : Hid (x / 18014398509481984 = x / 18014398509481984 % 1024) := show _ = _ by omega
  go_enter Tryz.func222, Tryz.ntmps222
  go_wp2_with fail
  go_ret
  exact ⟨ret_u64 H.out, rfl⟩

def soundM (x : Int) : Bool := bitB x 1 && (x / 18014398509481984 % 1024 == 0) && !(bitB x 4 && !bitB x 2)

theorem sound_at (x : Int) (w : World) (h0 : 0 ≤ x) (h1 : x ≤ 18446744073709551615) :
    Calls Tryz.prog 220 #[.int .u64 x] w fun e w' => e = .returned (.bool (soundM x)) ∧ w' = w := by
  have HV : Hid (anyB x 1 = bitB x 1) := anyB_bit 0 x 1 rfl (by omega) h0 h1
  have HR : Hid (anyB x 2 = bitB x 2) := anyB_bit 1 x 2 rfl (by omega) h0 h1
  have HW : Hid (anyB x 4 = bitB x 4) := anyB_bit 2 x 4 rfl (by omega) h0 h1
  cases hw : bitB x 4 <;> cases hr : bitB x 2 <;> cases hv : bitB x 1
  all_goals
    go_enter Tryz.func220, Tryz.ntmps220
    go_wp2_with (first
      | (go_at_call 187; refine (hasAny_at x _ _).mono ?_; rintro e w' ⟨rfl, rfl⟩; first | rw [HW.out, hw] | rw [HR.out, hr] | rw [HV.out, hv])
      | (go_at_call 222; refine (beyondPpn_at x _ h0 h1).mono ?_; rintro e w' ⟨rfl, rfl⟩))
    all_goals
      go_ret
      exact ⟨ret_bool (by simp [soundM, hw, hr, hv]; try assumption), rfl⟩

theorem aligned_at (x level : Int) (w : World) (h0 : 0 ≤ x) (h1 : x ≤ 18446744073709551615) (hl : level = 0 ∨ level = 1 ∨ level = 2) :
    Calls Tryz.prog 221 #[.int .u64 x, .int .i64 level] w fun e w' => e = .returned (.bool (ppnM x % pow3 level == 0)) ∧ w' = w := by
  have hpp : 0 ≤ ppnM x ∧ ppnM x < 17592186044416 := ⟨Int.emod_nonneg _ (by omega), Int.emod_lt_of_pos _ (by omega)⟩
  have HP : ∀ w, Hid (Calls Tryz.prog 200 #[.int .u64 x] w fun e w' => e = .returned (.int .u64 (ppnM x)) ∧ w' = w) := fun w => ppn_at x w h0 h1
  generalize ppnM x = p at *
  rcases hl with rfl | rfl | rfl
  · have H : Hid ((bits .and .u64 p 0 == 0) = (p % pow3 0 == 0)) := by
      show _ = _
      rw [mask_u64 0 p 0 rfl (by omega) hpp.1 (by omega)]; rfl
    go_enter Tryz.func221, Tryz.ntmps221
    go_wp2_with (first
      | (go_at_call 200; refine ((HP _).out).mono ?_; rintro e w' ⟨rfl, rfl⟩)
      | (go_at_call 153; refine (lowBits_at 0 0 _ (by omega)).mono ?_; rintro e w' ⟨rfl, rfl⟩))
    go_ret
    exact ⟨ret_bool H.out, rfl⟩
  · have H : Hid ((bits .and .u64 p 7 == 0) = (p % pow3 1 == 0)) := by
      show _ = _
      rw [mask_u64 3 p 7 rfl (by omega) hpp.1 (by omega)]; rfl
    go_enter Tryz.func221, Tryz.ntmps221
    go_wp2_with (first
      | (go_at_call 200; refine ((HP _).out).mono ?_; rintro e w' ⟨rfl, rfl⟩)
      | (go_at_call 153; refine (lowBits_at 3 7 _ (by omega)).mono ?_; rintro e w' ⟨rfl, rfl⟩))
    go_ret
    exact ⟨ret_bool H.out, rfl⟩
  · have H : Hid ((bits .and .u64 p 63 == 0) = (p % pow3 2 == 0)) := by
      show _ = _
      rw [mask_u64 6 p 63 rfl (by omega) hpp.1 (by omega)]; rfl
    go_enter Tryz.func221, Tryz.ntmps221
    go_wp2_with (first
      | (go_at_call 200; refine ((HP _).out).mono ?_; rintro e w' ⟨rfl, rfl⟩)
      | (go_at_call 153; refine (lowBits_at 6 63 _ (by omega)).mono ?_; rintro e w' ⟨rfl, rfl⟩))
    go_ret
    exact ⟨ret_bool H.out, rfl⟩

theorem knownLevel_at (l : Int) (w : World) :
    Calls Tryz.prog 185 #[.int .i64 l] w fun e w' => e = .returned (.bool (decide (0 ≤ l ∧ l ≤ 2))) ∧ w' = w := by
  by_cases h : 0 ≤ l
  · go_enter Tryz.func185, Tryz.ntmps185
    go_wp2_with fail
    go_ret
    exact ⟨ret_bool (by simp [h]), rfl⟩
  · go_enter Tryz.func185, Tryz.ntmps185
    go_wp2_with fail
    go_ret
    exact ⟨ret_bool (by simp; omega), rfl⟩

set_option maxHeartbeats 800000 in
theorem kind_at (x level : Int) (w : World) (h0 : 0 ≤ x) (h1 : x ≤ 18446744073709551615) :
    Calls Tryz.prog 215 #[.int .u64 x, .int .i64 level] w fun e w' => e = .returned (.int .i64 (kindM x level)) ∧ w' = w := by
  by_cases hlev : 0 ≤ level ∧ level ≤ 2
  · have hk : decide (0 ≤ level ∧ level ≤ 2) = true := by simpa using hlev
    have HK : Hid (decide (0 ≤ level ∧ level ≤ 2) = true) := hk
    have hl : level = 0 ∨ level = 1 ∨ level = 2 := by omega
    clear hk hlev
    have HR : Hid (anyB x 14 = (bitB x 2 || bitB x 4 || bitB x 8)) := anyB_rwx x h0 h1
    have HU : Hid (anyB x 208 = (bitB x 16 || bitB x 64 || bitB x 128)) := anyB_uad x h0 h1
    cases hs : soundM x
    · have HE : Hid (kindM x level = 0) := by
        show _ = _
        simp only [kindM]
        rw [if_pos]
        simp only [soundM] at hs
        cases hv : bitB x 1
        · simp
        · rw [hv] at hs
          by_cases hb : 0 < x / 18014398509481984 % 1024
          · simp [hb]
          · have hb' : x / 18014398509481984 % 1024 = 0 := by omega
            rw [hb'] at hs ⊢
            simp at hs
            simp [hs]
      go_enter Tryz.func215, Tryz.ntmps215
      go_wp2_with (first
        | (go_at_call 185; refine (knownLevel_at level _).mono ?_; rintro e w' ⟨rfl, rfl⟩; rw [HK.out])
        | (go_at_call 220; refine (sound_at x _ h0 h1).mono ?_; rintro e w' ⟨rfl, rfl⟩; rw [hs]))
      go_ret
      exact ⟨ret_i64 HE.out.symm, rfl⟩
    · have hn : ¬ (level < 0 ∨ 2 < level ∨ bitB x 1 = false ∨ 0 < x / 18014398509481984 % 1024 ∨ (bitB x 4 = true ∧ bitB x 2 = false)) := by
        simp only [soundM, Bool.and_eq_true, beq_iff_eq, Bool.not_eq_true', Bool.and_eq_false_iff, Bool.not_eq_false'] at hs
        obtain ⟨⟨a1, a2⟩, a3⟩ := hs
        rw [a1, a2]
        rcases a3 with a3 | a3
        · simp [a3]; omega
        · simp [a3]; omega
      have HE : Hid (kindM x level = if bitB x 2 = false ∧ bitB x 4 = false ∧ bitB x 8 = false then (if level = 0 ∨ bitB x 16 = true ∨ bitB x 64 = true ∨ bitB x 128 = true then 0 else 1) else if 0 < ppnM x % pow3 level then 0 else 2) := by
        show _ = _
        rw [kindM, if_neg hn]
      clear hn
      cases hr : (bitB x 2 || bitB x 4 || bitB x 8)
      · simp only [Bool.or_eq_false_iff] at hr
        have HE2 : Hid (kindM x level = if level = 0 ∨ bitB x 16 = true ∨ bitB x 64 = true ∨ bitB x 128 = true then 0 else 1) := by
          show _ = _
          rw [HE.out, if_pos ⟨hr.1.1, hr.1.2, hr.2⟩]
        clear HE
        have HR' : Hid (anyB x 14 = false) := by show _ = _; rw [HR.out, hr.1.1, hr.1.2, hr.2]; rfl
        clear HR hr
        by_cases hz : level = 0
        · subst hz
          go_enter Tryz.func215, Tryz.ntmps215
          go_wp2_with (first
            | (go_at_call 185; refine (knownLevel_at 0 _).mono ?_; rintro e w' ⟨rfl, rfl⟩; rw [HK.out])
            | (go_at_call 220; refine (sound_at x _ h0 h1).mono ?_; rintro e w' ⟨rfl, rfl⟩; rw [hs])
            | (go_at_call 187; refine (hasAny_at x _ _).mono ?_; rintro e w' ⟨rfl, rfl⟩; rw [HR'.out]))
          go_ret
          exact ⟨ret_i64 (by rw [HE2.out]; simp), rfl⟩
        · have hz' : (level == 0) = false := by simpa using hz
          cases hu : (bitB x 16 || bitB x 64 || bitB x 128)
          · have HE3 : Hid (kindM x level = 1) := by
              show _ = _
              simp only [Bool.or_eq_false_iff] at hu
              rw [HE2.out, hu.1.1, hu.1.2, hu.2]
              simp [hz]
            go_enter Tryz.func215, Tryz.ntmps215
            go_wp2_with (first
              | (go_at_call 185; refine (knownLevel_at level _).mono ?_; rintro e w' ⟨rfl, rfl⟩; rw [HK.out])
              | (go_at_call 220; refine (sound_at x _ h0 h1).mono ?_; rintro e w' ⟨rfl, rfl⟩; rw [hs])
              | (go_at_call 187; refine (hasAny_at x _ _).mono ?_; rintro e w' ⟨rfl, rfl⟩; first | rw [HR'.out] | rw [HU.out, hu]))
            go_ret
            exact ⟨ret_i64 HE3.out.symm, rfl⟩
          · have HE3 : Hid (kindM x level = 0) := by
              show _ = _
              simp only [Bool.or_eq_true] at hu
              rw [HE2.out, if_pos]
              rcases hu with (hu | hu) | hu <;> simp [hu]
            go_enter Tryz.func215, Tryz.ntmps215
            go_wp2_with (first
              | (go_at_call 185; refine (knownLevel_at level _).mono ?_; rintro e w' ⟨rfl, rfl⟩; rw [HK.out])
              | (go_at_call 220; refine (sound_at x _ h0 h1).mono ?_; rintro e w' ⟨rfl, rfl⟩; rw [hs])
              | (go_at_call 187; refine (hasAny_at x _ _).mono ?_; rintro e w' ⟨rfl, rfl⟩; first | rw [HR'.out] | rw [HU.out, hu]))
            go_ret
            exact ⟨ret_i64 HE3.out.symm, rfl⟩
      · have HR' : Hid (anyB x 14 = true) := by show _ = _; rw [HR.out, hr]
        have HE2 : Hid (kindM x level = if 0 < ppnM x % pow3 level then 0 else 2) := by
          show _ = _
          rw [HE.out, if_neg]
          rintro ⟨q1, q2, q3⟩
          rw [q1, q2, q3] at hr
          cases hr
        clear HE HR hr
        have hnn : 0 ≤ ppnM x % pow3 level := by
          apply Int.emod_nonneg
          rcases hl with rfl | rfl | rfl <;> decide
        cases ha : (ppnM x % pow3 level == 0)
        · have HE3 : Hid (kindM x level = 0) := by
            show _ = _
            have : ppnM x % pow3 level ≠ 0 := by simpa using ha
            rw [HE2.out, if_pos (by omega)]
          clear hnn
          go_enter Tryz.func215, Tryz.ntmps215
          go_wp2_with (first
            | (go_at_call 185; refine (knownLevel_at level _).mono ?_; rintro e w' ⟨rfl, rfl⟩; rw [HK.out])
            | (go_at_call 220; refine (sound_at x _ h0 h1).mono ?_; rintro e w' ⟨rfl, rfl⟩; rw [hs])
            | (go_at_call 187; refine (hasAny_at x _ _).mono ?_; rintro e w' ⟨rfl, rfl⟩; rw [HR'.out])
            | (go_at_call 221; refine (aligned_at x level _ h0 h1 hl).mono ?_; rintro e w' ⟨rfl, rfl⟩; rw [ha]))
          go_ret
          exact ⟨ret_i64 HE3.out.symm, rfl⟩
        · have HE3 : Hid (kindM x level = 2) := by
            show _ = _
            have : ppnM x % pow3 level = 0 := by simpa using ha
            rw [HE2.out, if_neg (by omega)]
          clear hnn
          go_enter Tryz.func215, Tryz.ntmps215
          go_wp2_with (first
            | (go_at_call 185; refine (knownLevel_at level _).mono ?_; rintro e w' ⟨rfl, rfl⟩; rw [HK.out])
            | (go_at_call 220; refine (sound_at x _ h0 h1).mono ?_; rintro e w' ⟨rfl, rfl⟩; rw [hs])
            | (go_at_call 187; refine (hasAny_at x _ _).mono ?_; rintro e w' ⟨rfl, rfl⟩; rw [HR'.out])
            | (go_at_call 221; refine (aligned_at x level _ h0 h1 hl).mono ?_; rintro e w' ⟨rfl, rfl⟩; rw [ha]))
          go_ret
          exact ⟨ret_i64 HE3.out.symm, rfl⟩
  · have HK : Hid (decide (0 ≤ level ∧ level ≤ 2) = false) := by show _ = _; simpa using hlev
    have HE : Hid (kindM x level = 0) := by
      show _ = _
      rw [kindM, if_pos (by omega)]
    clear hlev
    go_enter Tryz.func215, Tryz.ntmps215
    go_wp2_with (go_at_call 185; refine (knownLevel_at level _).mono ?_; rintro e w' ⟨rfl, rfl⟩; rw [HK.out])
    go_ret
    exact ⟨ret_i64 HE.out.symm, rfl⟩


end Go.Proofs.YthekickjjaleaacGreat

/- The program's chapter 2, more: Granted, PhysOf, the index of a level. -/
namespace Go.Proofs.YthekickjjaleaacGreat
open Go.RowKit
set_option linter.unusedVariables false

def allowsKindM (x kind : Int) (mxr : Bool) : Bool := if kind = 0 then bitB x 8 else if kind = 1 then bitB x 2 || (mxr && bitB x 8) else if kind = 2 then bitB x 4 else false

theorem allowsKind_at (x kind : Int) (mxr : Bool) (w : World) (h0 : 0 ≤ x) (h1 : x ≤ 18446744073709551615) :
    Calls Tryz.prog 196 #[.int .u64 x, .int .i64 kind, .bool mxr] w fun e w' => e = .returned (.bool (allowsKindM x kind mxr)) ∧ w' = w := by
  have HR : Hid (anyB x 2 = bitB x 2) := anyB_bit 1 x 2 rfl (by omega) h0 h1
  have HW : Hid (anyB x 4 = bitB x 4) := anyB_bit 2 x 4 rfl (by omega) h0 h1
  have HX : Hid (anyB x 8 = bitB x 8) := anyB_bit 3 x 8 rfl (by omega) h0 h1
  by_cases k0 : kind = 0
  · subst k0
    go_enter Tryz.func196, Tryz.ntmps196
    go_wp2_with (go_at_call 187; refine (hasAny_at x _ _).mono ?_; rintro e w' ⟨rfl, rfl⟩; rw [HX.out])
    go_ret
    exact ⟨rfl, rfl⟩
  have k0' : (kind == 0) = false := by simpa using k0
  by_cases k1 : kind = 1
  · subst k1
    cases hr : bitB x 2 <;> cases mxr
    all_goals
      go_enter Tryz.func196, Tryz.ntmps196
      go_wp2_with (go_at_call 187; refine (hasAny_at x _ _).mono ?_; rintro e w' ⟨rfl, rfl⟩; first | rw [HR.out, hr] | rw [HX.out])
      go_ret
      exact ⟨ret_bool (by simp [allowsKindM, hr]), rfl⟩
  have k1' : (kind == 1) = false := by simpa using k1
  by_cases k2 : kind = 2
  · subst k2
    go_enter Tryz.func196, Tryz.ntmps196
    go_wp2_with (go_at_call 187; refine (hasAny_at x _ _).mono ?_; rintro e w' ⟨rfl, rfl⟩; rw [HW.out])
    go_ret
    exact ⟨rfl, rfl⟩
  have k2' : (kind == 2) = false := by simpa using k2
  have HE : Hid (allowsKindM x kind mxr = false) := by show _ = _; rw [allowsKindM, if_neg k0, if_neg k1, if_neg k2]
  clear k0 k1 k2
  go_enter Tryz.func196, Tryz.ntmps196
  go_wp2_with fail
  go_ret
  exact ⟨ret_bool HE.out.symm, rfl⟩

def allowsModeM (x kind mode : Int) (sum : Bool) : Bool := if mode = 0 then bitB x 16 else if mode = 1 then !bitB x 16 || (sum && kind != 0) else false

theorem allowsMode_at (x kind mode : Int) (sum : Bool) (w : World) (h0 : 0 ≤ x) (h1 : x ≤ 18446744073709551615) :
    Calls Tryz.prog 197 #[.int .u64 x, .int .i64 kind, .int .i64 mode, .bool sum] w fun e w' => e = .returned (.bool (allowsModeM x kind mode sum)) ∧ w' = w := by
  have HU : Hid (anyB x 16 = bitB x 16) := anyB_bit 4 x 16 rfl (by omega) h0 h1
  by_cases k0 : mode = 0
  · subst k0
    go_enter Tryz.func197, Tryz.ntmps197
    go_wp2_with (go_at_call 187; refine (hasAny_at x _ _).mono ?_; rintro e w' ⟨rfl, rfl⟩; rw [HU.out])
    go_ret
    exact ⟨rfl, rfl⟩
  have k0' : (mode == 0) = false := by simpa using k0
  by_cases k1 : mode = 1
  · subst k1
    cases hu : bitB x 16 <;> cases sum
    all_goals
      go_enter Tryz.func197, Tryz.ntmps197
      go_wp2_with (go_at_call 187; refine (hasAny_at x _ _).mono ?_; rintro e w' ⟨rfl, rfl⟩; rw [HU.out, hu])
      all_goals
        go_ret
        exact ⟨ret_bool (by simp_all [allowsModeM]), rfl⟩
  have k1' : (mode == 1) = false := by simpa using k1
  have HE : Hid (allowsModeM x kind mode sum = false) := by show _ = _; rw [allowsModeM, if_neg k0, if_neg k1]
  clear k0 k1
  go_enter Tryz.func197, Tryz.ntmps197
  go_wp2_with fail
  go_ret
  exact ⟨ret_bool HE.out.symm, rfl⟩

def markedM (x kind : Int) : Bool := bitB x 64 && (kind != 2 || bitB x 128)

theorem marked_at (x kind : Int) (w : World) (h0 : 0 ≤ x) (h1 : x ≤ 18446744073709551615) :
    Calls Tryz.prog 198 #[.int .u64 x, .int .i64 kind] w fun e w' => e = .returned (.bool (markedM x kind)) ∧ w' = w := by
  have HA : Hid (anyB x 64 = bitB x 64) := anyB_bit 6 x 64 rfl (by omega) h0 h1
  have HD : Hid (anyB x 128 = bitB x 128) := anyB_bit 7 x 128 rfl (by omega) h0 h1
  cases ha : bitB x 64
  · go_enter Tryz.func198, Tryz.ntmps198
    go_wp2_with (go_at_call 187; refine (hasAny_at x _ _).mono ?_; rintro e w' ⟨rfl, rfl⟩; rw [HA.out, ha])
    go_ret
    exact ⟨ret_bool (by simp [markedM, ha]), rfl⟩
  · cases hk : (kind != 2)
    · go_enter Tryz.func198, Tryz.ntmps198
      go_wp2_with (go_at_call 187; refine (hasAny_at x _ _).mono ?_; rintro e w' ⟨rfl, rfl⟩; first | rw [HA.out, ha] | rw [HD.out])
      go_ret
      exact ⟨ret_bool (by simp [markedM, ha, hk]), rfl⟩
    · go_enter Tryz.func198, Tryz.ntmps198
      go_wp2_with (go_at_call 187; refine (hasAny_at x _ _).mono ?_; rintro e w' ⟨rfl, rfl⟩; first | rw [HA.out, ha] | rw [HD.out])
      go_ret
      exact ⟨ret_bool (by simp [markedM, ha, hk]), rfl⟩

theorem grant_parts (x kind mode : Int) (sum mxr : Bool) : grantM x kind mode sum mxr = (allowsKindM x kind mxr && allowsModeM x kind mode sum && markedM x kind) := by
  simp only [grantM, allowsKindM, allowsModeM, markedM]
  by_cases k0 : kind = 0
  · subst k0
    simp only [if_pos]
    cases bitB x 8 <;> cases bitB x 64 <;> simp <;> split <;> simp
  by_cases k1 : kind = 1
  · subst k1
    simp only [if_neg k0, if_pos]
    by_cases m0 : mode = 0
    · subst m0; simp
    by_cases m1 : mode = 1
    · subst m1; simp
    · simp [m0, m1]
  by_cases k2 : kind = 2
  · subst k2
    by_cases m0 : mode = 0
    · subst m0; simp; cases bitB x 64 <;> cases bitB x 128 <;> cases bitB x 4 <;> simp
    by_cases m1 : mode = 1
    · subst m1; simp; cases bitB x 64 <;> cases bitB x 128 <;> cases bitB x 4 <;> cases bitB x 16 <;> cases sum <;> simp
    · simp [m0, m1]
  · simp [k0, k1, k2]

theorem implGranted_at (x kind mode : Int) (sum mxr : Bool) (w : World) (h0 : 0 ≤ x) (h1 : x ≤ 18446744073709551615) :
    Calls Tryz.prog 160 #[.int .u64 x, .int .i64 kind, .int .i64 mode, .bool sum, .bool mxr] w fun e w' => e = .returned (.bool (grantM x kind mode sum mxr)) ∧ w' = w := by
  rw [grant_parts]
  cases hk : allowsKindM x kind mxr
  · go_enter Tryz.func160, Tryz.ntmps160
    go_wp2_with (first
      | (go_at_call 196; refine (allowsKind_at x kind mxr _ h0 h1).mono ?_; rintro e w' ⟨rfl, rfl⟩; rw [hk]))
    go_ret
    exact ⟨ret_bool (by simp), rfl⟩
  cases hm : allowsModeM x kind mode sum
  · go_enter Tryz.func160, Tryz.ntmps160
    go_wp2_with (first
      | (go_at_call 196; refine (allowsKind_at x kind mxr _ h0 h1).mono ?_; rintro e w' ⟨rfl, rfl⟩; rw [hk])
      | (go_at_call 197; refine (allowsMode_at x kind mode sum _ h0 h1).mono ?_; rintro e w' ⟨rfl, rfl⟩; rw [hm]))
    go_ret
    exact ⟨ret_bool (by simp), rfl⟩
  · go_enter Tryz.func160, Tryz.ntmps160
    go_wp2_with (first
      | (go_at_call 196; refine (allowsKind_at x kind mxr _ h0 h1).mono ?_; rintro e w' ⟨rfl, rfl⟩; rw [hk])
      | (go_at_call 197; refine (allowsMode_at x kind mode sum _ h0 h1).mono ?_; rintro e w' ⟨rfl, rfl⟩; rw [hm])
      | (go_at_call 198; refine (marked_at x kind _ h0 h1).mono ?_; rintro e w' ⟨rfl, rfl⟩))
    go_ret
    exact ⟨ret_bool (by simp), rfl⟩

theorem placeMask_at (level m : Int) (w : World) (h : (level = 0 ∧ m = 63) ∨ (level = 1 ∧ m = 511) ∨ (level = 2 ∧ m = 4095)) :
    Calls Tryz.prog 199 #[.int .i64 level] w fun e w' => e = .returned (.int .u64 m) ∧ w' = w := by
  rcases h with ⟨rfl, rfl⟩ | ⟨rfl, rfl⟩ | ⟨rfl, rfl⟩
  · go_enter Tryz.func199, Tryz.ntmps199
    go_wp2_with (go_at_call 153; refine (lowBits_at 6 63 _ (by omega)).mono ?_; rintro e w' ⟨rfl, rfl⟩)
    go_ret
    exact ⟨rfl, rfl⟩
  · go_enter Tryz.func199, Tryz.ntmps199
    go_wp2_with (go_at_call 153; refine (lowBits_at 9 511 _ (by omega)).mono ?_; rintro e w' ⟨rfl, rfl⟩)
    go_ret
    exact ⟨rfl, rfl⟩
  · go_enter Tryz.func199, Tryz.ntmps199
    go_wp2_with (go_at_call 153; refine (lowBits_at 12 4095 _ (by omega)).mono ?_; rintro e w' ⟨rfl, rfl⟩)
    go_ret
    exact ⟨rfl, rfl⟩

theorem phys_at (x level va : Int) (w : World) (h0 : 0 ≤ x) (h1 : x ≤ 18446744073709551615) (hl : level = 0 ∨ level = 1 ∨ level = 2) (hv0 : 0 ≤ va) (hv1 : va ≤ 18446744073709551615) :
    Calls Tryz.prog 161 #[.int .u64 x, .int .i64 level, .int .u64 va] w fun e w' => e = .returned (.int .u64 (physM x level va)) ∧ w' = w := by
  have hpp : 0 ≤ ppnM x ∧ ppnM x < 17592186044416 := ⟨Int.emod_nonneg _ (by omega), Int.emod_lt_of_pos _ (by omega)⟩
  have HP : ∀ w, Hid (Calls Tryz.prog 200 #[.int .u64 x] w fun e w' => e = .returned (.int .u64 (ppnM x)) ∧ w' = w) := fun w => ppn_at x w h0 h1
  have HE : Hid (physM x level va = ppnM x * 64 / spanM level * spanM level + va % spanM level) := by
    show _ = _
    rw [physM, if_neg (by omega)]
  rw [HE.out]
  clear HE
  generalize ppnM x = p at *
  rcases hl with rfl | rfl | rfl
  · have H : Hid (bits .or .u64 (bits .andNot .u64 (p * 64) 63) (bits .and .u64 va 63) = p * 64 / spanM 0 * spanM 0 + va % spanM 0) :=
      splice_u64 6 (p * 64) va 63 64 rfl rfl (by omega) (by omega) (by omega) hv0 hv1
    go_enter Tryz.func161, Tryz.ntmps161
    go_wp2_with (first
      | (go_at_call 200; refine ((HP _).out).mono ?_; rintro e w' ⟨rfl, rfl⟩)
      | (go_at_call 199; refine (placeMask_at 0 63 _ (by omega)).mono ?_; rintro e w' ⟨rfl, rfl⟩))
    go_ret
    exact ⟨ret_u64 H.out, rfl⟩
  · have H : Hid (bits .or .u64 (bits .andNot .u64 (p * 64) 511) (bits .and .u64 va 511) = p * 64 / spanM 1 * spanM 1 + va % spanM 1) :=
      splice_u64 9 (p * 64) va 511 512 rfl rfl (by omega) (by omega) (by omega) hv0 hv1
    go_enter Tryz.func161, Tryz.ntmps161
    go_wp2_with (first
      | (go_at_call 200; refine ((HP _).out).mono ?_; rintro e w' ⟨rfl, rfl⟩)
      | (go_at_call 199; refine (placeMask_at 1 511 _ (by omega)).mono ?_; rintro e w' ⟨rfl, rfl⟩))
    go_ret
    exact ⟨ret_u64 H.out, rfl⟩
  · have H : Hid (bits .or .u64 (bits .andNot .u64 (p * 64) 4095) (bits .and .u64 va 4095) = p * 64 / spanM 2 * spanM 2 + va % spanM 2) :=
      splice_u64 12 (p * 64) va 4095 4096 rfl rfl (by omega) (by omega) (by omega) hv0 hv1
    go_enter Tryz.func161, Tryz.ntmps161
    go_wp2_with (first
      | (go_at_call 200; refine ((HP _).out).mono ?_; rintro e w' ⟨rfl, rfl⟩)
      | (go_at_call 199; refine (placeMask_at 2 4095 _ (by omega)).mono ?_; rintro e w' ⟨rfl, rfl⟩))
    go_ret
    exact ⟨ret_u64 H.out, rfl⟩


theorem index_at (va level : Int) (w : World) (hv0 : 0 ≤ va) (hv1 : va ≤ 18446744073709551615) (hl : level = 0 ∨ level = 1 ∨ level = 2) :
    Calls Tryz.prog 219 #[.int .u64 va, .int .i64 level] w fun e w' => e = .returned (.int .u64 (idxM va level)) ∧ ∃ n, w' = w.drewN n := by
  rcases hl with rfl | rfl | rfl
  · have H : Hid (bits .and .u64 (va / 64) 7 = idxM va 0) := mask_u64 3 (va / 64) 7 rfl (by omega) (by omega) (by omega)
    go_enter Tryz.func219, Tryz.ntmps219
    go_wp2_with fail
    go_quiet ((go_at_call 153; exact Calls.quiet_of_same (lowBits_at 3 7 _ (by omega))))
    go_wp2_with fail
    go_ret
    exact ⟨ret_u64 H.out, nq, rfl⟩
  · have H : Hid (bits .and .u64 (va / 512) 7 = idxM va 1) := mask_u64 3 (va / 512) 7 rfl (by omega) (by omega) (by omega)
    go_enter Tryz.func219, Tryz.ntmps219
    go_wp2_with fail
    go_quiet ((go_at_call 153; exact Calls.quiet_of_same (lowBits_at 3 7 _ (by omega))))
    go_wp2_with fail
    go_ret
    exact ⟨ret_u64 H.out, nq, rfl⟩
  · have H : Hid (bits .and .u64 (va / 4096) 7 = idxM va 2) := mask_u64 3 (va / 4096) 7 rfl (by omega) (by omega) (by omega)
    go_enter Tryz.func219, Tryz.ntmps219
    go_wp2_with fail
    go_quiet ((go_at_call 153; exact Calls.quiet_of_same (lowBits_at 3 7 _ (by omega))))
    go_wp2_with fail
    go_ret
    exact ⟨ret_u64 H.out, nq, rfl⟩

end Go.Proofs.YthekickjjaleaacGreat

/- The specification's writing: l1Bytes, l1Put, spec.WriteMem. -/
namespace Go.Proofs.YthekickjjaleaacGreat
open Go.RowKit
set_option linter.unusedVariables false

theorem l1Bytes_any (n : Nat) : ∀ (x : Int) (w : World), n ≤ 8 → 0 ≤ x → x ≤ 18446744073709551615 →
    Calls Tryz.prog 216 #[.int .u64 x, .int .i64 n] w fun e w' =>
      ∃ g cap, e = .returned (.slice (some ⟨g, 0, none⟩) n cap) ∧ OwnB 5 w' w.heap.size g n cap (byts x n) ∧ Below w.heap.size w w' := by
  induction n with
  | zero =>
    intro x w hn h0 h1
    go_enter Tryz.func216, Tryz.ntmps216
    go_wp2_with fail
    go_ret
    exact ⟨_, _, rfl, OwnB.new _ _ [] 0 rfl (by decide), (Below.refl _ _).alloc (Nat.le_refl _) _⟩
  | succ n ih =>
    intro x w hn h0 h1
    have hp : (((n + 1 : Nat) : Int) == 0) = false := by simp; omega
    have IH : Hid (∀ (x : Int) (w : World), n ≤ 8 → 0 ≤ x → x ≤ 18446744073709551615 →
      Calls Tryz.prog 216 #[.int .u64 x, .int .i64 n] w fun e w' =>
        ∃ g cap, e = .returned (.slice (some ⟨g, 0, none⟩) n cap) ∧ OwnB 5 w' w.heap.size g n cap (byts x n) ∧ Below w.heap.size w w') := ih
    clear ih
    go_enter Tryz.func216, Tryz.ntmps216
    go_wp2_with fail
    have o1 := OwnB.new 5 w [x % 256] 1 rfl (by decide)
    have n1 : Below w.heap.size w (w.alloc (Obj.cells #[Value.int IntKind.u8 (x % 256)] 5)) := (Below.refl _ _).alloc (Nat.le_refl _) _
    simp only [List.map_cons, List.map_nil] at o1
    generalize w.alloc (Obj.cells #[Value.int IntKind.u8 (x % 256)] 5) = v1 at o1 n1 ⊢
    refine (IH.out (x / 256) v1 (by omega) (by omega) (by omega)).mono ?_
    rintro e v2 ⟨g, cap, rfl, o2, n2⟩
    have o3 := o1.keep n2 o1.facts.2.2.1
    have f2 := o2.facts
    have n3 := Below.step n1 n2 (Nat.le_refl _)
    have hlt := o3.facts.2.2.1
    have b2 := o2.byt (bd_of_mem (byts_bd n _))
    clear o1 n1 n2 IH
    go_wp2_with (at_builtin; refine append_b _ rfl (.tmp 11) (.tmp 16) 22 rfl 5 Tryz.underlying22 Tryz.infoB w.heap.size _ _ _ _ rfl o3 g 0 n cap (byts (x / 256) n) rfl b2 (by omega) _ _ n3 (Nat.le_refl _) ?_; intro g' cap' v4 o4 n4)
    go_ret
    rw [Nat.add_comm 1 n] at o4
    exact ⟨g', cap', ret_sl (Nat.add_comm 1 n), o4, n4⟩

set_option maxHeartbeats 800000 in
theorem l1Put_any (b off len cap k g o n capb : Nat) (zs ys : List Int) (w : World) (hz : Byt w (some ⟨b, off, none⟩) len zs) (hy : Byt w (some ⟨g, o, none⟩) n ys) (hl : len ≤ 1048576) (hk : k + n ≤ len) (hc : len ≤ cap) (hm : cap ≤ 9223372036854775807) :
    Calls Tryz.prog 217 #[.slice (some ⟨b, off, none⟩) len cap, .int .i64 k, .slice (some ⟨g, o, none⟩) n capb] w fun e w' =>
      ∃ g' cap', e = .returned (.slice (some ⟨g', 0, none⟩) len cap') ∧ OwnB 5 w' w.heap.size g' len cap' (zs.take k ++ ys ++ zs.drop (k + n)) ∧ Below w.heap.size w w' := by
  have hzl := hz.1
  have hyl := hy.1
  have o1 := OwnB.new 5 w [] 0 rfl (by decide)
  have n1 : Below w.heap.size w (w.alloc (Obj.cells #[] 5)) := (Below.refl _ _).alloc (Nat.le_refl _) _
  simp only [List.map_nil] at o1
  have x1 : Byt (w.alloc (Obj.cells #[] 5)) (some ⟨b, off, none⟩) k (zs.take k) := (hz.take k (by omega)).keep n1
  have fin : ∀ (a : Option Addr), (k + n < len → a = some ⟨b, off + (k + n), none⟩) → ∀ v : World, Below w.heap.size w v → Byt v a (len - (k + n)) (zs.drop (k + n)) := fun a ha v hv =>
    (hz.drop (k + n) (len - (k + n)) hk rfl a ha).keep hv
  have FIN : Hid _ := fin
  have hlen : k + n + (len - (k + n)) = len := by omega
  have HL : Hid (k + n + (len - (k + n)) = len) := hlen
  clear fin hlen
  by_cases hcc : cap = k + n
  · subst hcc
    go_enter Tryz.func217, Tryz.ntmps217
    go_wp2_with (first
      | (at_builtin; refine append_b _ rfl (.tmp 8) (.tmp 11) 22 rfl 5 Tryz.underlying22 Tryz.infoB w.heap.size _ _ _ _ rfl o1 b off k _ (zs.take k) rfl x1 (by omega) _ _ n1 (Nat.le_refl _) ?_; intro g2 cap2 v2 o2 n2; rw [Nat.zero_add] at o2 ⊢; have y2 := hy.keep n2; clear o1 n1 x1)
      | (at_builtin; refine append_b _ rfl (.tmp 13) (.tmp 14) 22 rfl 5 Tryz.underlying22 Tryz.infoB w.heap.size _ _ _ _ rfl o2 g o n _ ys rfl y2 (by omega) _ _ n2 (Nat.le_refl _) ?_; intro g3 cap3 v3 o3 n3; clear o2 n2 y2 hz hy)
      | (at_builtin; refine append_b _ rfl (.tmp 16) (.tmp 22) 22 rfl 5 Tryz.underlying22 Tryz.infoB w.heap.size _ _ _ _ rfl o3 b (off) (len - (k + n)) _ (zs.drop (k + n)) rfl (FIN.out _ (fun h => by omega) _ n3) (by omega) _ _ n3 (Nat.le_refl _) ?_; intro g4 cap4 v4 o4 n4; clear o3 n3))
    go_ret
    rw [HL.out] at o4
    exact ⟨g4, cap4, ret_sl (by omega), o4, n4⟩
  · have hcl : k + n < cap := by omega
    clear hcc
    go_enter Tryz.func217, Tryz.ntmps217
    go_wp2_with (first
      | (at_builtin; refine append_b _ rfl (.tmp 8) (.tmp 11) 22 rfl 5 Tryz.underlying22 Tryz.infoB w.heap.size _ _ _ _ rfl o1 b off k _ (zs.take k) rfl x1 (by omega) _ _ n1 (Nat.le_refl _) ?_; intro g2 cap2 v2 o2 n2; rw [Nat.zero_add] at o2 ⊢; have y2 := hy.keep n2; clear o1 n1 x1)
      | (at_builtin; refine append_b _ rfl (.tmp 13) (.tmp 14) 22 rfl 5 Tryz.underlying22 Tryz.infoB w.heap.size _ _ _ _ rfl o2 g o n _ ys rfl y2 (by omega) _ _ n2 (Nat.le_refl _) ?_; intro g3 cap3 v3 o3 n3; clear o2 n2 y2 hz hy)
      | (at_builtin; refine append_b _ rfl (.tmp 16) (.tmp 22) 22 rfl 5 Tryz.underlying22 Tryz.infoB w.heap.size _ _ _ _ rfl o3 b (off + (k + n)) (len - (k + n)) _ (zs.drop (k + n)) rfl (FIN.out _ (fun _ => rfl) _ n3) (by omega) _ _ n3 (Nat.le_refl _) ?_; intro g4 cap4 v4 o4 n4; clear o3 n3))
    go_ret
    rw [HL.out] at o4
    exact ⟨g4, cap4, ret_sl (by omega), o4, n4⟩


end Go.Proofs.YthekickjjaleaacGreat
