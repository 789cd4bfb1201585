/- markByteS and heldByteS. -/
import Derived.Test.YtgjhfekfiihlkabImpl1w
namespace Go.Proofs.Ytgjhfekfiihlkab
open Go.RowKit
set_option linter.unusedVariables false

/-- The marks k, k + 1, .. as bytes. -/
def mks (k : Int) : Nat → List Int
  | 0 => []
  | n + 1 => mks k n ++ [(k + n) % 256]

theorem mks_len (k : Int) : ∀ n, (mks k n).length = n
  | 0 => rfl
  | n + 1 => by simp [mks, mks_len k n]

theorem mks_at (k : Int) : ∀ (n i : Nat), i < n → (mks k n)[i]? = some ((k + i) % 256)
  | 0, i, h => by omega
  | n + 1, i, h => by
    by_cases e : i < n
    · rw [mks, List.getElem?_append_left (by rw [mks_len]; exact e)]
      exact mks_at k n i e
    · have e' : i = n := by omega
      subst e'
      rw [mks, List.getElem?_append_right (by rw [mks_len]; exact Nat.le_refl _), mks_len]
      simp

theorem gb_refl (w : World) (r : Option Nat) : w.grownBy w r := ⟨rfl, rfl, rfl, Nat.le_refl _, fun _ _ _ => rfl⟩

theorem gb_set {w v : World} {g : Nat} (h : w.grownBy v (some g)) (i : Nat) (u : Value) : w.grownBy (v.setCell ⟨g, i, none⟩ u) (some g) :=
  ⟨h.os, h.tape, h.output, by simpa [World.setCell] using h.size, fun k hk hn => by
    rw [Below.heap_setCell _ _ _ _ (by intro e; exact hn (by rw [e]))]
    exact h.block k hk hn⟩

theorem mark_step (k0 : Int) (len j : Nat) (ys : List Int) (hy : ys.length = len) (hj : j < len) (h : ∀ t, t < j → ys[t]? = (mks k0 len)[t]?) : ∀ t, t < j + 1 → (ys.set j ((k0 + j) % 256))[t]? = (mks k0 len)[t]? := by
  intro t ht
  by_cases e : t = j
  · subst e; rw [mks_at k0 len t hj]; simp [hy, hj]
  · rw [List.getElem?_set_ne (by omega)]; exact h t (by omega)

set_option maxHeartbeats 400000 in
theorem markByteS_any (g len cap : Nat) (zs : List Int) (k0 : Int) (w : World) (h : Blk 5 w g zs) (hz : zs.length = len) (hl : len ≤ 1048576) (hk0 : 0 ≤ k0) (hk1 : k0 ≤ 1073741824) :
    Calls Try.prog 15 #[.slice (some ⟨g, 0, none⟩) len cap, .int .i64 k0] w fun e w' =>
      e = .returned (.int .i64 (k0 + len)) ∧ Blk 5 w' g (mks k0 len) ∧ w.grownBy w' (some g) := by
  go_enter Try.func15, Try.ntmps15
  go_wp2
  go_loopw [1, 5] (fun kk i wr => ∃ (j : Nat) (ys : List Int), j ≤ len ∧ kk = .int .i64 (k0 + j) ∧ i = .int .i64 j ∧ ys.length = len ∧ (∀ t, t < j → ys[t]? = (mks k0 len)[t]?) ∧ Blk 5 wr g ys ∧ w.grownBy wr (some g)) (fun _ i _ => len - (intOf i).toNat)
  case atStart => exact ⟨0, zs, Nat.zero_le _, by simp, rfl, hz, fun t ht => absurd ht (by omega), h, gb_refl _ _⟩
  case round =>
    obtain ⟨j, ys, hj, rfl, rfl, hy, hyz, hb, hn⟩ := hrel
    by_cases hlt : j < len
    · have g2 := hb.cell j (by omega)
      have g3 := hb.free j
      have HZ : Hid (∀ t, t < j → ys[t]? = (mks k0 len)[t]?) := hyz
      clear hyz h
      go_wp2
      go_roundw
      case rel => exact ⟨j + 1, _, by omega, by go_num, by go_num, by simp [hy], mark_step k0 len j ys hy hlt HZ.out, hb.store j _, gb_set hn _ _⟩
      case measure => simp [intOf]; omega
    · have hyy : ys = mks k0 len := by
        apply List.ext_getElem?
        intro t
        by_cases ht : t < len
        · exact hyz t (by omega)
        · rw [List.getElem?_eq_none (by omega), List.getElem?_eq_none (by rw [mks_len]; omega)]
      subst hyy
      have hjl : j = len := by omega
      subst hjl
      clear hyz h
      go_wp2
      go_ret
      exact ⟨rfl, hb, hn⟩

set_option maxHeartbeats 400000 in
theorem heldByteS_any (g len cap : Nat) (k0 : Int) (w : World) (h : Blk 5 w g (mks k0 len)) (hl : len ≤ 1048576) (hk0 : 0 ≤ k0) (hk1 : k0 ≤ 1073741824) :
    Calls Try.prog 16 #[.slice (some ⟨g, 0, none⟩) len cap, .int .i64 k0] w fun e w' =>
      e = .returned (.int .i64 (k0 + len)) ∧ w' = w := by
  go_enter Try.func16, Try.ntmps16
  go_wp2
  go_loop [1, 5] (fun kk i => ∃ (j : Nat), j ≤ len ∧ kk = .int .i64 (k0 + j) ∧ i = .int .i64 j) (fun _ i => len - (intOf i).toNat)
  case atStart => exact ⟨0, Nat.zero_le _, by simp, rfl⟩
  case round =>
    obtain ⟨j, hj, rfl, rfl⟩ := hrel
    by_cases hlt : j < len
    · have g2 := h.cell j (by rw [mks_len]; exact hlt)
      rw [mks_at k0 len j hlt] at g2
      have g3 : w.cell? ⟨g, j, none⟩ = some (.int .u8 ((k0 + j) % 256)) := g2
      clear g2 h
      go_wp2
      go_round
      case rel => exact ⟨j + 1, by omega, by go_num, by go_num⟩
      case measure => simp [intOf]; omega
    · have hjl : j = len := by omega
      subst hjl
      clear h
      go_wp2
      go_ret
      exact ⟨rfl, rfl⟩

theorem wrL_len (zs : List Int) (a n v : Int) (len : Nat) (h : zs.length = len) (h0 : 0 ≤ a) : (wrL zs a n v).length = len := by
  unfold wrL
  split
  · next hg =>
    simp only [goodB, decide_eq_true_eq] at hg
    simp [byts_len]
    omega
  · exact h

theorem mem_of_bd {zs : List Int} (h : ∀ i : Nat, 0 ≤ zs[i]?.getD 0 ∧ zs[i]?.getD 0 ≤ 255) : ∀ z ∈ zs, 0 ≤ z ∧ z ≤ 255 := by
  intro z hz
  obtain ⟨i, hi, rfl⟩ := List.getElem_of_mem hz
  simpa [hi] using h i

theorem wrL_bd (zs : List Int) (a n v : Int) (h : ∀ i : Nat, 0 ≤ zs[i]?.getD 0 ∧ zs[i]?.getD 0 ≤ 255) : ∀ i : Nat, 0 ≤ (wrL zs a n v)[i]?.getD 0 ∧ (wrL zs a n v)[i]?.getD 0 ≤ 255 := by
  have hm := mem_of_bd h
  refine bd_of_mem ?_
  unfold wrL
  split
  · intro z hz
    simp only [List.mem_append] at hz
    rcases hz with (hz | hz) | hz
    · exact hm z (List.mem_of_mem_take hz)
    · exact byts_bd _ _ z hz
    · exact hm z (List.mem_of_mem_drop hz)
  · exact hm

/-- A slice that is not in the row that was written reads as before. -/
theorem Byt.gb {w w' : World} {b off len g : Nat} {zs : List Int} (h : Byt w (some ⟨b, off, none⟩) len zs) (hg : w.grownBy w' (some g)) (hne : b ≠ g) : Byt w' (some ⟨b, off, none⟩) len zs := by
  obtain ⟨h1, h2, h3⟩ := h
  refine ⟨h1, h2, ?_⟩
  rcases h3 with h3 | ⟨b', off', e, hlt, hc⟩
  · exact .inl h3
  · simp at e
    obtain ⟨rfl, rfl⟩ := e
    exact .inr ⟨b, off, rfl, Nat.lt_of_lt_of_le hlt hg.size, fun i hi => (World.cell?_of_block (hg.block b hlt (by simpa using hne))).trans (hc i hi)⟩

end Go.Proofs.Ytgjhfekfiihlkab
