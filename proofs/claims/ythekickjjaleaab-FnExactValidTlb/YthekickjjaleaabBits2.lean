/- Bits of unsigned numbers as plain mathematics: single bits, several bits, replacing the lowest bits. -/
import Derived.Test.YthekickjjaleaabRows1
import Derived.Test.YthekickjjaleaabMath2
namespace Go.Proofs.Ythekickjjaleaab
set_option linter.unusedVariables false

theorem nat_and_pow (a k : Nat) : (a &&& 2 ^ k != 0) = (a / 2 ^ k % 2 == 1) := by
  have e : (a / 2 ^ k % 2 == 1) = a.testBit k := by rw [Nat.testBit_eq_decide_div_mod_eq]; rfl
  rw [e]
  cases h : a.testBit k
  · have : a &&& 2 ^ k = 0 := by
      apply Nat.eq_of_testBit_eq
      intro i
      rw [Nat.testBit_and, Nat.testBit_two_pow, Nat.zero_testBit]
      by_cases hi : k = i
      · subst hi; simp [h]
      · simp [hi]
    simp [this]
  · have : a &&& 2 ^ k ≠ 0 := by
      intro h0
      have := congrArg (fun n => n.testBit k) h0
      simp [Nat.testBit_and, h] at this
    simpa using this

theorem nat_and_or (a m n : Nat) : (a &&& (m ||| n) != 0) = ((a &&& m != 0) || (a &&& n != 0)) := by
  rw [Nat.and_or_distrib_left]
  cases h : (a &&& m != 0) <;> cases h' : (a &&& n != 0) <;> simp_all [Nat.or_eq_zero_iff]

/-- Some bit of x is among those of m. -/
def anyB (x m : Int) : Bool := bits .and .u64 x m != 0

theorem anyB_nat (a m : Nat) (ha : a < 18446744073709551616) (hm : m < 18446744073709551616) : anyB a m = (a &&& m != 0) := by
  rw [anyB, u64_and_nat a m ha hm]
  cases h : (a &&& m != 0)
  · simp at h; simp [h]
  · simp at h; simp; omega

theorem anyB_bit (k : Nat) (x p : Int) (hp : p = 2 ^ k) (hk : p < 18446744073709551616) (h0 : 0 ≤ x) (h1 : x ≤ 18446744073709551615) : anyB x p = bitB x p := by
  obtain ⟨a, rfl⟩ := Int.eq_ofNat_of_zero_le h0
  have e : p = ((2 ^ k : Nat) : Int) := by rw [hp]; push_cast; rfl
  rw [e] at hk ⊢
  rw [anyB_nat a (2 ^ k) (by omega) (by omega), nat_and_pow, bitB]
  rw [show ((a : Int) / ((2 ^ k : Nat) : Int) % 2) = ((a / 2 ^ k % 2 : Nat) : Int) by omega]
  generalize a / 2 ^ k % 2 = t
  rw [Bool.eq_iff_iff]
  simp only [beq_iff_eq]
  omega

theorem anyB_rwx (x : Int) (h0 : 0 ≤ x) (h1 : x ≤ 18446744073709551615) : anyB x 14 = (bitB x 2 || bitB x 4 || bitB x 8) := by
  rw [← anyB_bit 1 x 2 rfl (by omega) h0 h1, ← anyB_bit 2 x 4 rfl (by omega) h0 h1, ← anyB_bit 3 x 8 rfl (by omega) h0 h1]
  obtain ⟨a, rfl⟩ := Int.eq_ofNat_of_zero_le h0
  rw [show (14 : Int) = ((14 : Nat) : Int) from rfl, show (2 : Int) = ((2 : Nat) : Int) from rfl, show (4 : Int) = ((4 : Nat) : Int) from rfl, show (8 : Int) = ((8 : Nat) : Int) from rfl]
  rw [anyB_nat a 14 (by omega) (by omega), anyB_nat a 2 (by omega) (by omega), anyB_nat a 4 (by omega) (by omega), anyB_nat a 8 (by omega) (by omega)]
  rw [← nat_and_or, ← nat_and_or]
  rfl

theorem anyB_uad (x : Int) (h0 : 0 ≤ x) (h1 : x ≤ 18446744073709551615) : anyB x 208 = (bitB x 16 || bitB x 64 || bitB x 128) := by
  rw [← anyB_bit 4 x 16 rfl (by omega) h0 h1, ← anyB_bit 6 x 64 rfl (by omega) h0 h1, ← anyB_bit 7 x 128 rfl (by omega) h0 h1]
  obtain ⟨a, rfl⟩ := Int.eq_ofNat_of_zero_le h0
  rw [show (208 : Int) = ((208 : Nat) : Int) from rfl, show (16 : Int) = ((16 : Nat) : Int) from rfl, show (64 : Int) = ((64 : Nat) : Int) from rfl, show (128 : Int) = ((128 : Nat) : Int) from rfl]
  rw [anyB_nat a 208 (by omega) (by omega), anyB_nat a 16 (by omega) (by omega), anyB_nat a 64 (by omega) (by omega), anyB_nat a 128 (by omega) (by omega)]
  rw [← nat_and_or, ← nat_and_or]
  rfl

/-- The lowest k bits cleared. -/
theorem clear_u64 (k : Nat) (x m P : Int) (hP : P = 2 ^ k) (hm : m = P - 1) (hk : m < 18446744073709551616) (h0 : 0 ≤ x) (h1 : x ≤ 18446744073709551615) : bits .andNot .u64 x m = x / P * P := by
  obtain ⟨a, rfl⟩ := Int.eq_ofNat_of_zero_le h0
  have hp : 1 ≤ (2 ^ k : Nat) := Nat.one_le_two_pow
  have eP : P = ((2 ^ k : Nat) : Int) := by rw [hP]; push_cast; rfl
  have e : m = ((2 ^ k - 1 : Nat) : Int) := by rw [hm, eP]; omega
  rw [e] at hk ⊢
  rw [eP, u64_andNot_nat a (2 ^ k - 1) (by omega) (by omega)]
  rw [show ((a : Int) / ((2 ^ k : Nat) : Int) * ((2 ^ k : Nat) : Int)) = ((a / 2 ^ k * 2 ^ k : Nat) : Int) by push_cast; rfl]
  congr 1
  apply Nat.eq_of_testBit_eq
  intro i
  have hk64 : k ≤ 64 := by
    rcases Nat.lt_or_ge 64 k with h | h
    · have : 2 ^ 65 ≤ 2 ^ k := Nat.pow_le_pow_right (by omega) h
      omega
    · exact h
  rw [Nat.testBit_and, Nat.testBit_mul_two_pow, Nat.testBit_div_two_pow]
  by_cases hi : k ≤ i
  · by_cases hi' : i < 64
    · have : (18446744073709551615 - (2 ^ k - 1)).testBit i = true := by
        rw [show 18446744073709551615 - (2 ^ k - 1) = 2 ^ 64 - (2 ^ k - 1 + 1) by omega, Nat.testBit_two_pow_sub_succ (by omega), Nat.testBit_two_pow_sub_one]
        simp
        omega
      rw [this]
      simp [hi, show i - k + k = i by omega]
    · have : a.testBit i = false := Nat.testBit_lt_two_pow (Nat.lt_of_lt_of_le (by omega : a < 2 ^ 64) (Nat.pow_le_pow_right (by omega) (by omega)))
      simp [this, show i - k + k = i by omega]
  · have : (18446744073709551615 - (2 ^ k - 1)).testBit i = false := by
      rw [show 18446744073709551615 - (2 ^ k - 1) = 2 ^ 64 - (2 ^ k - 1 + 1) by omega, Nat.testBit_two_pow_sub_succ (by omega), Nat.testBit_two_pow_sub_one]
      simp
      omega
    simp [this, hi]

/-- The lowest bits of one number, the upper ones of another. -/
theorem splice_u64 (k : Nat) (x y m P : Int) (hP : P = 2 ^ k) (hm : m = P - 1) (hk : m < 18446744073709551616) (h0 : 0 ≤ x) (h1 : x ≤ 18446744073709551615) (g0 : 0 ≤ y) (g1 : y ≤ 18446744073709551615) :
    bits .or .u64 (bits .andNot .u64 x m) (bits .and .u64 y m) = x / P * P + y % P := by
  have hp : 1 ≤ P := by rw [hP]; exact Int.pow_pos (by omega : (0 : Int) < 2)
  rw [clear_u64 k x m P hP hm hk h0 h1, mask_u64 k y m (by rw [hm, hP]) hk g0 g1, ← hP]
  have a1 : 0 ≤ y % P := Int.emod_nonneg _ (by omega)
  have a2 : y % P < P := Int.emod_lt_of_pos _ (by omega)
  have a3 : 0 ≤ x / P := Int.ediv_nonneg h0 (by omega)
  have a4 : x / P * P ≤ x := Int.ediv_mul_le _ (by omega)
  have a5 : 0 ≤ x / P * P := Int.mul_nonneg a3 (by omega)
  have hc : bits .or .u64 (x / P * P) (y % P) = bits .or .u64 (y % P) (x / P * P) := by
    rw [u64_or _ _ a5 (by omega) a1 (by omega), u64_or _ _ a1 (by omega) a5 (by omega), Nat.or_comm]
  rw [hc, or_shift k P (y % P) (x / P) hP a1 a2 a3 (by omega) (by omega)]
  omega

end Go.Proofs.Ythekickjjaleaab
