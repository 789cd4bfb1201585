/- The specification's ValidTlb, whole; l4Either, l4GoodCaches. -/
import Derived.Test.YthekickjjaleaabSpec4v
import Derived.Test.YthekickjjaleaabSpec4v1
import Derived.Test.YthekickjjaleaabSpec4v2
import Derived.Test.YthekickjjaleaabSpec4v8
namespace Go.Proofs.Ythekickjjaleaab
open Go.RowKit
set_option linter.unusedVariables false

set_option maxHeartbeats 1600000 in
/-- A shape that is not right. -/
theorem specValid_no (a : Option Addr) (n cap : Nat) (sets ways : Int) (p : Bool) (w : World) (hl : n ≤ 1048576) (hs : -9223372036854775808 ≤ sets ∧ sets ≤ 9223372036854775807) (hw : -9223372036854775808 ≤ ways ∧ ways ≤ 9223372036854775807)
    (h : ¬ ((sets = 1 ∨ sets = 2 ∨ sets = 4 ∨ sets = 8) ∧ 1 ≤ ways ∧ ways ≤ 4 ∧ (n : Int) = sets * ways)) :
    Calls Try.prog 42 #[.agg #[.int .i64 sets, .int .i64 ways, .slice a n cap], .bool p] w fun e w' => e = .returned (.bool false) ∧ Below w.heap.size w w' := by
  by_cases h1 : sets = 1 ∨ sets = 2 ∨ sets = 4 ∨ sets = 8
  · by_cases h2 : ways < 1
    · rcases h1 with rfl | rfl | rfl | rfl
      all_goals
        go_enter Try.func42, Try.ntmps42
        go_wp2_with fail
        go_ret
        exact ⟨rfl, (Below.refl _ _).alloc (Nat.le_refl _) _⟩
    by_cases h3 : 4 < ways
    · rcases h1 with rfl | rfl | rfl | rfl
      all_goals
        go_enter Try.func42, Try.ntmps42
        go_wp2_with fail
        go_ret
        exact ⟨rfl, (Below.refl _ _).alloc (Nat.le_refl _) _⟩
    rcases h1 with rfl | rfl | rfl | rfl
    · have h4 : ((n : Int) != ways) = true := by rw [bne_iff_ne]; omega
      clear h
      go_enter Try.func42, Try.ntmps42
      go_wp2_with fail
      go_ret
      exact ⟨rfl, (Below.refl _ _).alloc (Nat.le_refl _) _⟩
    · have h4 : ((n : Int) != 2 * ways) = true := by rw [bne_iff_ne]; omega
      clear h
      go_enter Try.func42, Try.ntmps42
      go_wp2_with fail
      go_ret
      exact ⟨rfl, (Below.refl _ _).alloc (Nat.le_refl _) _⟩
    · have h4 : ((n : Int) != 4 * ways) = true := by rw [bne_iff_ne]; omega
      clear h
      go_enter Try.func42, Try.ntmps42
      go_wp2_with fail
      go_ret
      exact ⟨rfl, (Below.refl _ _).alloc (Nat.le_refl _) _⟩
    · have h4 : ((n : Int) != 8 * ways) = true := by rw [bne_iff_ne]; omega
      clear h
      go_enter Try.func42, Try.ntmps42
      go_wp2_with fail
      go_ret
      exact ⟨rfl, (Below.refl _ _).alloc (Nat.le_refl _) _⟩
  · have q1 : (sets != 1) = true := by rw [bne_iff_ne]; omega
    have q2 : (sets != 2) = true := by rw [bne_iff_ne]; omega
    have q4 : (sets != 4) = true := by rw [bne_iff_ne]; omega
    have q8 : (sets != 8) = true := by rw [bne_iff_ne]; omega
    clear h h1
    go_enter Try.func42, Try.ntmps42
    go_wp2_with fail
    go_ret
    exact ⟨rfl, (Below.refl _ _).alloc (Nat.le_refl _) _⟩

theorem specValid_any (v : Value) (t : TlbM) (p : Bool) (w : World) (h : TlbAt w v t) :
    Calls Try.prog 42 #[v, .bool p] w fun e w' => e = .returned (.bool (validM t p)) ∧ Below w.heap.size w w' := by
  obtain ⟨a, cap, rfl, hr, he, hs, hw, hl, hlc, hcm, hnil, hsp⟩ := h
  obtain ⟨sets, ways, es⟩ := t
  simp only at hr he hs hw hl hlc hnil ⊢
  by_cases hsh : (sets = 1 ∨ sets = 2 ∨ sets = 4 ∨ sets = 8) ∧ 1 ≤ ways ∧ ways ≤ 4 ∧ (es.length : Int) = sets * ways
  · have hv : validM ⟨sets, ways, es⟩ p = placesM ⟨sets, ways, es⟩ p 0 es := by simp only [validM, shapeM]; rw [decide_eq_true hsh, Bool.true_and]
    rw [hv]
    obtain ⟨h1, h2, h3, h4⟩ := hsh
    obtain ⟨b, off, rfl⟩ : ∃ b off, a = some ⟨b, off, none⟩ := by
      rcases hr.2 with h0 | ⟨b, off, rfl, _, _⟩
      · rw [h0] at h4
        rcases h1 with rfl | rfl | rfl | rfl <;> simp at h4 <;> omega
      · exact ⟨b, off, rfl⟩
    rcases h1 with rfl | rfl | rfl | rfl
    · exact specValid_1 b off cap ways es es.length p w hr he hl rfl h2 h3 h4
    · exact specValid_2 b off cap ways es es.length p w hr he hl rfl h2 h3 h4
    · exact specValid_4 b off cap ways es es.length p w hr he hl rfl h2 h3 h4
    · exact specValid_8 b off cap ways es es.length p w hr he hl rfl h2 h3 h4
  · have hv : validM ⟨sets, ways, es⟩ p = false := by simp only [validM, shapeM]; rw [decide_eq_false hsh, Bool.false_and]
    rw [hv]
    exact specValid_no a es.length cap sets ways p w hl hs hw hsh

end Go.Proofs.Ythekickjjaleaab
