import Derived.Test.YthekickjjaleaacGreatPack31
/- markByteS and heldByteS. -/
namespace Go.Proofs.YthekickjjaleaacGreat
open Go.RowKit
set_option linter.unusedVariables false

set_option maxHeartbeats 400000 in
theorem markByteS_any (g len cap : Nat) (zs : List Int) (k0 : Int) (w : World) (h : Blk 5 w g zs) (hz : zs.length = len) (hl : len ≤ 1048576) (hk0 : 0 ≤ k0) (hk1 : k0 ≤ 1073741824) :
    Calls Tryz.prog 16 #[.slice (some ⟨g, 0, none⟩) len cap, .int .i64 k0] w fun e w' =>
      e = .returned (.int .i64 (k0 + len)) ∧ Blk 5 w' g (mks k0 len) ∧ w.grownBy w' (some g) := by
  go_enter Tryz.func16, Tryz.ntmps16
  go_wp2
  go_loopw [1, 5] (fun kk i wr => ∃ (j : Nat) (ys : List Int), j ≤ len ∧ kk = .int .i64 (k0 + j) ∧ i = .int .i64 j ∧ ys.length = len ∧ (∀ t, t < j → ys[t]? = (mks k0 len)[t]?) ∧ Blk 5 wr g ys ∧ w.grownBy wr (some g)) (fun _ i _ => len - (intOf i).toNat)
  case atStart => exact ⟨0, zs, Nat.zero_le _, by simp, rfl, hz, fun t ht => absurd ht (by omega), h, gb_refl _ _⟩
  case round =>
    obtain ⟨j, ys, hj, rfl, rfl, hy, hyz, hb, hn⟩ := hrel
    by_cases hlt : j < len
    · have g2 := hb.cell j (by omega)
      have g3 := hb.free j
      have HZ : Hid (∀ t, t < j → ys[t]? = (mks k0 len)[t]?) := hyz
      clear hyz h
      go_wp2
      go_roundw
      case rel => exact ⟨j + 1, _, by omega, by go_num, by go_num, by simp [hy], mark_step k0 len j ys hy hlt HZ.out, hb.store j _, gb_set hn _ _⟩
      case measure => simp [intOf]; omega
    · have hyy : ys = mks k0 len := by
        apply List.ext_getElem?
        intro t
        by_cases ht : t < len
        · exact hyz t (by omega)
        · rw [List.getElem?_eq_none (by omega), List.getElem?_eq_none (by rw [mks_len]; omega)]
      subst hyy
      have hjl : j = len := by omega
      subst hjl
      clear hyz h
      go_wp2
      go_ret
      exact ⟨rfl, hb, hn⟩

set_option maxHeartbeats 400000 in
theorem heldByteS_any (g len cap : Nat) (k0 : Int) (w : World) (h : Blk 5 w g (mks k0 len)) (hl : len ≤ 1048576) (hk0 : 0 ≤ k0) (hk1 : k0 ≤ 1073741824) :
    Calls Tryz.prog 80 #[.slice (some ⟨g, 0, none⟩) len cap, .int .i64 k0] w fun e w' =>
      e = .returned (.int .i64 (k0 + len)) ∧ w' = w := by
  go_enter Tryz.func80, Tryz.ntmps80
  go_wp2
  go_loop [1, 5] (fun kk i => ∃ (j : Nat), j ≤ len ∧ kk = .int .i64 (k0 + j) ∧ i = .int .i64 j) (fun _ i => len - (intOf i).toNat)
  case atStart => exact ⟨0, Nat.zero_le _, by simp, rfl⟩
  case round =>
    obtain ⟨j, hj, rfl, rfl⟩ := hrel
    by_cases hlt : j < len
    · have g2 := h.cell j (by rw [mks_len]; exact hlt)
      rw [mks_at k0 len j hlt] at g2
      have g3 : w.cell? ⟨g, j, none⟩ = some (.int .u8 ((k0 + j) % 256)) := g2
      clear g2 h
      go_wp2
      go_round
      case rel => exact ⟨j + 1, by omega, by go_num, by go_num⟩
      case measure => simp [intOf]; omega
    · have hjl : j = len := by omega
      subst hjl
      clear h
      go_wp2
      go_ret
      exact ⟨rfl, rfl⟩

end Go.Proofs.YthekickjjaleaacGreat
