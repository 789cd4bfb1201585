/- More on rows of bytes in memory. No program is named here. -/
import Derived.Test.YthekickjjaleaabBytes
import Derived.Test.YthekickjjaleaabMath1
import Derived.Laws.BitsAllLaws
import Derived.Laws.AppendOwnNone
import Derived.Laws.CopyOwn
import Derived.Deep.QuietTactic
import Derived.BigQuiet
import Derived.WalkSmall
namespace Go.Proofs.Ythekickjjaleaab
open Go.RowKit
set_option linter.unusedVariables false

theorem made_u8 (n : Nat) : (madeCells #[Value.int .u8 0] n).toList = (List.replicate n (0 : Int)).map (Value.int .u8) := by
  apply List.ext_getElem
  · simp [madeCells]
  · intro i h1 h2
    simp [madeCells, Nat.mod_one]

theorem byt_tail {w : World} {a : Option Addr} {b off len : Nat} {z : Int} {r : List Int} (h2 : ∀ i : Nat, 0 ≤ (z :: r)[i]?.getD 0 ∧ (z :: r)[i]?.getD 0 ≤ 255) (hr : r.length = len) (hb : b < w.heap.size)
    (hc : ∀ i, i < len + 1 → w.cell? ⟨b, off + i, none⟩ = some (.int .u8 ((z :: r)[i]?.getD 0))) (ha : 0 < len → a = some ⟨b, off + 1, none⟩) : Byt w a len r := by
  refine ⟨hr, fun i => by simpa using h2 (i + 1), ?_⟩
  by_cases h : len = 0
  · exact .inl h
  · refine .inr ⟨b, off + 1, ha (by omega), hb, fun i hi => ?_⟩
    have := hc (i + 1) (by omega)
    simpa [Nat.add_assoc, Nat.add_comm 1 i] using this

theorem byt_sub {w : World} {a : Option Addr} {b off len k n : Nat} {zs : List Int} (h2 : ∀ i : Nat, 0 ≤ zs[i]?.getD 0 ∧ zs[i]?.getD 0 ≤ 255) (hz : zs.length = len) (hb : b < w.heap.size) (hk : k + n ≤ len)
    (hc : ∀ i, i < len → w.cell? ⟨b, off + i, none⟩ = some (.int .u8 (zs[i]?.getD 0))) (ha : 0 < n → a = some ⟨b, off + k, none⟩) : Byt w a n ((zs.drop k).take n) := by
  refine ⟨by simp; omega, fun i => ?_, ?_⟩
  · by_cases h : i < n
    · simpa [List.getElem?_take, h] using h2 (k + i)
    · simp [List.getElem?_take, h]
  · by_cases h : n = 0
    · exact .inl h
    · refine .inr ⟨b, off + k, ha (by omega), hb, fun i hi => ?_⟩
      have := hc (k + i) (by omega)
      simpa [List.getElem?_take, hi, Nat.add_assoc] using this

theorem Byt.take {w : World} {a : Option Addr} {len : Nat} {zs : List Int} (h : Byt w a len zs) (k : Nat) (hk : k ≤ len) : Byt w a k (zs.take k) := by
  obtain ⟨h1, h2, h3⟩ := h
  refine ⟨by simp; omega, fun i => ?_, ?_⟩
  · by_cases hi : i < k
    · simpa [List.getElem?_take, hi] using h2 i
    · simp [List.getElem?_take, hi]
  · rcases h3 with h3 | ⟨b, off, rfl, hb, hc⟩
    · exact .inl (by omega)
    · exact .inr ⟨b, off, rfl, hb, fun i hi => by simpa [List.getElem?_take, hi] using hc i (by omega)⟩

theorem Byt.drop {w : World} {b off len : Nat} {zs : List Int} (h : Byt w (some ⟨b, off, none⟩) len zs) (k m : Nat) (hk : k ≤ len) (hm : m = len - k) (a : Option Addr) (ha : k < len → a = some ⟨b, off + k, none⟩) : Byt w a m (zs.drop k) := by
  obtain ⟨h1, h2, h3⟩ := h
  refine ⟨by clear h3; simp; omega, fun i => by simpa using h2 (k + i), ?_⟩
  by_cases h0 : m = 0
  · exact .inl h0
  · rcases h3 with h3 | ⟨b', off', e, hb, hc⟩
    · omega
    · simp at e
      obtain ⟨rfl, rfl⟩ := e
      exact .inr ⟨b, off + k, ha (by omega), hb, fun i hi => by simpa [Nat.add_assoc] using hc (k + i) (by omega)⟩

/-- The cells from ⟨b, off⟩ on hold the bytes zs. (A closed word: the walk does not look behind it.) -/
def Cel (w : World) (b off len : Nat) (zs : List Int) : Prop :=
  zs.length = len ∧ (∀ i : Nat, 0 ≤ zs[i]?.getD 0 ∧ zs[i]?.getD 0 ≤ 255) ∧ ∀ i, i < len → w.cell? ⟨b, off + i, none⟩ = some (.int .u8 (zs[i]?.getD 0))

/-- An 'or' of two numbers that share no bit is their sum. -/
theorem or_shift (s : Nat) (P x y : Int) (hP : P = 2 ^ s) (h0 : 0 ≤ x) (h1 : x < P) (h2 : 0 ≤ y) (h3 : y * P < 18446744073709551616) (h4 : x < 18446744073709551616) : bits .or .u64 x (y * P) = x + y * P := by
  obtain ⟨a, rfl⟩ := Int.eq_ofNat_of_zero_le h0
  obtain ⟨b, rfl⟩ := Int.eq_ofNat_of_zero_le h2
  have e : (b : Int) * P = ((2 ^ s * b : Nat) : Int) := by rw [hP]; push_cast; rw [Int.mul_comm]
  rw [e] at h3 ⊢
  rw [u64_or_nat a (2 ^ s * b) (by omega) (by omega), Nat.or_comm, ← Nat.two_pow_add_eq_or_of_lt (by rw [hP] at h1; exact_mod_cast h1)]
  push_cast
  omega

theorem ret_u64 {a b : Int} (h : a = b) : Ending.returned (.int .u64 a) = .returned (.int .u64 b) := by rw [h]

theorem Cel.of_byt {w : World} {b off len : Nat} {zs : List Int} (h : Byt w (some ⟨b, off, none⟩) len zs) : Cel w b off len zs := by
  obtain ⟨h1, h2, h3⟩ := h
  refine ⟨h1, h2, fun i hi => ?_⟩
  rcases h3 with h3 | ⟨b', off', e, hb, hc⟩
  · omega
  · simp at e
    obtain ⟨rfl, rfl⟩ := e
    exact hc i hi

theorem splice_all (ys zs : List Value) (h : ys.length = zs.length) : splice ys 0 zs = zs := by
  simp [splice, h]

theorem src_any {w : World} {a : Option Addr} {n : Nat} {zs : List Int} (h : Byt w a n zs) (hp : 0 < n) : ∃ ad, a = some ad ∧ ∀ j u, (zs.map (Value.int .u8))[j]? = some u → w.cell? (ad.add j) = some u := by
  rcases h.2.2 with h3 | ⟨b, off, rfl, _, _⟩
  · omega
  · exact ⟨⟨b, off, none⟩, rfl, src_u8 h⟩

theorem gb_refl (w : World) (r : Option Nat) : w.grownBy w r := ⟨rfl, rfl, rfl, Nat.le_refl _, fun _ _ _ => rfl⟩

theorem gb_set {w v : World} {g : Nat} (h : w.grownBy v (some g)) (i : Nat) (u : Value) : w.grownBy (v.setCell ⟨g, i, none⟩ u) (some g) :=
  ⟨h.os, h.tape, h.output, by simpa [World.setCell] using h.size, fun k hk hn => by
    rw [Below.heap_setCell _ _ _ _ (by intro e; exact hn (by rw [e]))]
    exact h.block k hk hn⟩

/-- A slice that is not in the row that was written reads as before. -/
theorem Byt.gb {w w' : World} {b off len g : Nat} {zs : List Int} (h : Byt w (some ⟨b, off, none⟩) len zs) (hg : w.grownBy w' (some g)) (hne : b ≠ g) : Byt w' (some ⟨b, off, none⟩) len zs := by
  obtain ⟨h1, h2, h3⟩ := h
  refine ⟨h1, h2, ?_⟩
  rcases h3 with h3 | ⟨b', off', e, hlt, hc⟩
  · exact .inl h3
  · simp at e
    obtain ⟨rfl, rfl⟩ := e
    exact .inr ⟨b, off, rfl, Nat.lt_of_lt_of_le hlt hg.size, fun i hi => (World.cell?_of_block (hg.block b hlt (by simpa using hne))).trans (hc i hi)⟩

/-- The lowest k bits of a number. -/
theorem mask_u64 (k : Nat) (x m : Int) (hm : m = 2 ^ k - 1) (hk : m < 18446744073709551616) (h0 : 0 ≤ x) (h1 : x ≤ 18446744073709551615) : bits .and .u64 x m = x % 2 ^ k := by
  obtain ⟨a, rfl⟩ := Int.eq_ofNat_of_zero_le h0
  have hp : 1 ≤ (2 ^ k : Nat) := Nat.one_le_two_pow
  have e : m = ((2 ^ k - 1 : Nat) : Int) := by rw [hm]; push_cast [hp]; rfl
  rw [e] at hk ⊢
  rw [u64_and_nat a (2 ^ k - 1) (by omega) (by omega), Nat.and_two_pow_sub_one_eq_mod]
  push_cast
  rfl

theorem ret_true {b : Bool} (h : b = true) : Ending.returned (.bool b) = .returned (.bool true) := by rw [h]

end Go.Proofs.Ythekickjjaleaab
