/- The laws' marks over records of a walk: markRecS, heldRecS, markWalkRes, heldWalkRes. -/
import Derived.Test.YthekickjjaleaabWalkEq
namespace Go.Proofs.Ythekickjjaleaab
open Go.RowKit
set_option linter.unusedVariables false
attribute [local go_sem ↓] Go.wp_at_zero Go.wp_at_succ

theorem markRecS_nil (a : Option Addr) (cap : Nat) (k0 : Int) (w : World) :
    Calls Try.prog 86 #[.slice a 0 cap, .int .i64 k0] w fun e w' => e = .returned (.int .i64 k0) ∧ w' = w := by
  go_enter Try.func86, Try.ntmps86
  go_wp2_with fail
  go_loop [1, 5] (fun kk i => kk = .int .i64 k0 ∧ i = .int .i64 0) (fun _ i => 0)
  case atStart => exact ⟨rfl, rfl⟩
  case round =>
    obtain ⟨rfl, rfl⟩ := hrel
    go_wp2_with fail
    go_ret
    exact ⟨rfl, rfl⟩

set_option maxHeartbeats 800000 in
theorem markRecS_any (g n cap : Nat) (cs : List Value) (k0 : Int) (w : World) (h : CurAt 161 w g (n * 3) cs) (hl : n ≤ 1048576) (hk0 : 0 ≤ k0) (hk1 : k0 ≤ 1073741824) :
    Calls Try.prog 86 #[.slice (some ⟨g, 0, none⟩) n cap, .int .i64 k0] w fun e w' =>
      e = .returned (.int .i64 (k0 + n * 3)) ∧ CurAt 161 w' g (n * 3) (mkL k0 (n * 3)) ∧ w.grownBy w' (some g) := by
  go_enter Try.func86, Try.ntmps86
  go_wp2_with fail
  go_loopw [1, 5] (fun kk i wr => ∃ (j : Nat) (ys : List Value), j ≤ n ∧ kk = .int .i64 (k0 + j * 3) ∧ i = .int .i64 j ∧ (∀ t, t < j * 3 → ys[t]? = some (mkV k0 t)) ∧ CurAt 161 wr g (n * 3) ys ∧ w.grownBy wr (some g)) (fun _ i _ => n - (intOf i).toNat)
  case atStart => exact ⟨0, cs, Nat.zero_le _, by simp, rfl, fun t ht => absurd ht (by omega), h, gb_refl _ _⟩
  case round =>
    obtain ⟨j, ys, hj, rfl, rfl, hyz, hb, hn⟩ := hrel
    by_cases hlt : j < n
    · have hy := hb.1
      have g0 := hb.cell (j * 3) _ (List.getElem?_eq_getElem (by omega))
      have g1 := hb.cell (j * 3 + 1) _ (List.getElem?_eq_getElem (by omega))
      have g2 := hb.cell (j * 3 + 2) _ (List.getElem?_eq_getElem (by omega))
      have f0 := hb.free (j * 3)
      have f1 := hb.free (j * 3 + 1)
      have f2 := hb.free (j * 3 + 2)
      generalize ys[j * 3]'_ = y0 at g0
      generalize ys[j * 3 + 1]'_ = y1 at g1
      generalize ys[j * 3 + 2]'_ = y2 at g2
      have HZ : Hid (∀ t, t < j * 3 → ys[t]? = some (mkV k0 t)) := hyz
      have HB : Hid (CurAt 161 wr g (n * 3) ys) := hb
      clear hyz h hb
      go_wp2_with fail
      go_roundw
      case rel => exact ⟨j + 1, _, by omega, by go_num, by go_num, mk_step k0 j (n * 3) ys hy (by omega) HZ.out, ((HB.out.store _ _).store _ _).store _ _, gb_set (gb_set (gb_set hn _ _) _ _) _ _⟩
      case measure => simp [intOf]; omega
    · have hyy : ys = mkL k0 (n * 3) := by
        apply List.ext_getElem?
        intro t
        by_cases ht : t < n * 3
        · rw [mkL_at k0 _ t ht]; exact hyz t (by omega)
        · rw [List.getElem?_eq_none (by have := hb.1; omega), List.getElem?_eq_none (by simp [mkL]; omega)]
      subst hyy
      have hjl : j = n := by omega
      subst hjl
      clear hyz h
      go_wp2_with fail
      go_ret
      exact ⟨rfl, hb, hn⟩

theorem heldRecS_nil (a : Option Addr) (cap : Nat) (k0 : Int) (w : World) :
    Calls Try.prog 87 #[.slice a 0 cap, .int .i64 k0] w fun e w' => e = .returned (.int .i64 k0) ∧ Below w.heap.size w w' := by
  go_enter Try.func87, Try.ntmps87
  go_wp2_with fail
  go_loop [1, 5] (fun kk i => kk = .int .i64 k0 ∧ i = .int .i64 0) (fun _ i => 0)
  case atStart => exact ⟨rfl, rfl⟩
  case round =>
    obtain ⟨rfl, rfl⟩ := hrel
    go_wp2_with fail
    go_ret
    exact ⟨rfl, Below.refl _ _⟩

set_option maxHeartbeats 800000 in
theorem heldRecS_any (g n cap : Nat) (k0 : Int) (w : World) (h : CurAt 161 w g (n * 3) (mkL k0 (n * 3))) (hl : n ≤ 1048576) (hk0 : 0 ≤ k0) (hk1 : k0 ≤ 1073741824) :
    Calls Try.prog 87 #[.slice (some ⟨g, 0, none⟩) n cap, .int .i64 k0] w fun e w' =>
      e = .returned (.int .i64 (k0 + n * 3)) ∧ Below w.heap.size w w' := by
  have hg := h.lt
  go_enter Try.func87, Try.ntmps87
  go_wp2_with fail
  go_loopw [1, 5] (fun kk i wr => ∃ (j : Nat), j ≤ n ∧ kk = .int .i64 (k0 + j * 3) ∧ i = .int .i64 j ∧ Below w.heap.size w wr) (fun _ i _ => n - (intOf i).toNat)
  case atStart => exact ⟨0, Nat.zero_le _, by simp, rfl, Below.refl _ _⟩
  case round =>
    obtain ⟨j, hj, rfl, rfl, hn⟩ := hrel
    by_cases hlt : j < n
    · have g0 := Below.cell2 hn (h.cell (j * 3) _ (mkL_at k0 _ (j * 3) (by omega))) hg
      have g1 := Below.cell2 hn (h.cell (j * 3 + 1) _ (mkL_at k0 _ (j * 3 + 1) (by omega))) hg
      have g2 := Below.cell2 hn (h.cell (j * 3 + 2) _ (mkL_at k0 _ (j * 3 + 2) (by omega))) hg
      rw [mkV0] at g0
      rw [mkV1] at g1
      rw [mkV2] at g2
      clear h
      go_wp2_with fail
      go_roundw
      case rel => exact ⟨j + 1, by omega, by go_num, by go_num, hn⟩
      case measure => simp [intOf]; omega
    · have hjl : j = n := by omega
      subst hjl
      clear h
      go_wp2_with fail
      go_ret
      exact ⟨rfl, hn⟩

theorem markWalkRes_nil (c l p : Int) (a : Option Addr) (cap : Nat) (k0 : Int) (w : World) :
    Calls Try.prog 35 #[.agg #[.int .i64 c, .int .i64 l, .int .u64 p, .slice a 0 cap], .int .i64 k0] w fun e w' => e = .returned (.int .i64 k0) ∧ Below w.heap.size w w' := by
  have b1 := (Below.refl w.heap.size w).alloc (Nat.le_refl _) (Obj.cells #[.int .i64 c, .int .i64 l, .int .u64 p, .slice a 0 cap] 42)
  go_enter Try.func35, Try.ntmps35
  go_wp2_with (go_at_call 86; refine (markRecS_nil a cap k0 _).mono ?_; rintro e w' ⟨rfl, rfl⟩)
  go_ret
  exact ⟨rfl, b1⟩

theorem markWalkRes_any (c l p : Int) (g n cap : Nat) (cs : List Value) (k0 : Int) (w : World) (h : CurAt 161 w g (n * 3) cs) (hl : n ≤ 1048576) (hk0 : 0 ≤ k0) (hk1 : k0 ≤ 1073741824) :
    Calls Try.prog 35 #[.agg #[.int .i64 c, .int .i64 l, .int .u64 p, .slice (some ⟨g, 0, none⟩) n cap], .int .i64 k0] w fun e w' =>
      e = .returned (.int .i64 (k0 + n * 3)) ∧ CurAt 161 w' g (n * 3) (mkL k0 (n * 3)) ∧ w.grownBy w' (some g) := by
  have m1 := World.grownBy_alloc w (Obj.cells #[.int .i64 c, .int .i64 l, .int .u64 p, .slice (some ⟨g, 0, none⟩) n cap] 42) (some g)
  have h1 : Hid (CurAt 161 (w.alloc (Obj.cells #[.int .i64 c, .int .i64 l, .int .u64 p, .slice (some ⟨g, 0, none⟩) n cap] 42)) g (n * 3) cs) := by
    obtain ⟨q1, cur, q2, q3⟩ := h
    exact ⟨q1, cur, (heap_alloc_old _ _ (Array.getElem?_eq_some_iff.1 q2).1).trans q2, q3⟩
  clear h
  go_enter Try.func35, Try.ntmps35
  go_wp2_with fail
  refine (markRecS_any g n cap cs k0 _ h1.out hl hk0 hk1).mono ?_
  rintro e v2 ⟨rfl, c2, m2⟩
  have m12 := gb_trans m1 m2
  clear m1 m2 h1
  go_wp2_with fail
  go_ret
  exact ⟨rfl, c2, m12⟩

theorem heldWalkRes_nil (c l p : Int) (a : Option Addr) (cap : Nat) (k0 : Int) (w : World) (hk0 : 0 ≤ k0) :
    Calls Try.prog 36 #[.agg #[.int .i64 c, .int .i64 l, .int .u64 p, .slice a 0 cap], .int .i64 k0] w fun e w' => e = .returned (.int .i64 k0) ∧ Below w.heap.size w w' := by
  have b1 := (Below.refl w.heap.size w).alloc (Nat.le_refl _) (Obj.cells #[.int .i64 c, .int .i64 l, .int .u64 p, .slice a 0 cap] 42)
  have hk : decide (k0 < 0) = false := by simp; omega
  go_enter Try.func36, Try.ntmps36
  go_wp2_with fail
  refine (heldRecS_nil a cap k0 _).mono ?_
  rintro e v2 ⟨rfl, n2⟩
  have b2 := Below.step b1 n2 (Nat.le_refl _)
  clear b1 n2
  go_wp2_with fail
  go_ret
  exact ⟨rfl, b2⟩

theorem heldWalkRes_any (c l p : Int) (g n cap : Nat) (k0 : Int) (w : World) (h : CurAt 161 w g (n * 3) (mkL k0 (n * 3))) (hl : n ≤ 1048576) (hk0 : 0 ≤ k0) (hk1 : k0 ≤ 1073741824) :
    Calls Try.prog 36 #[.agg #[.int .i64 c, .int .i64 l, .int .u64 p, .slice (some ⟨g, 0, none⟩) n cap], .int .i64 k0] w fun e w' =>
      e = .returned (.int .i64 (k0 + n * 3)) ∧ Below w.heap.size w w' := by
  have b1 := (Below.refl w.heap.size w).alloc (Nat.le_refl _) (Obj.cells #[.int .i64 c, .int .i64 l, .int .u64 p, .slice (some ⟨g, 0, none⟩) n cap] 42)
  have h1 : Hid (CurAt 161 (w.alloc (Obj.cells #[.int .i64 c, .int .i64 l, .int .u64 p, .slice (some ⟨g, 0, none⟩) n cap] 42)) g (n * 3) (mkL k0 (n * 3))) := by
    obtain ⟨q1, cur, q2, q3⟩ := h
    exact ⟨q1, cur, (heap_alloc_old _ _ (Array.getElem?_eq_some_iff.1 q2).1).trans q2, q3⟩
  clear h
  have hk : decide (k0 + n * 3 < 0) = false := by simp; omega
  go_enter Try.func36, Try.ntmps36
  go_wp2_with fail
  refine (heldRecS_any g n cap k0 _ h1.out hl hk0 hk1).mono ?_
  rintro e v2 ⟨rfl, n2⟩
  have b2 := Below.step b1 n2 (Nat.le_refl _)
  clear b1 n2 h1
  go_wp2_with fail
  go_ret
  exact ⟨rfl, b2⟩

end Go.Proofs.Ythekickjjaleaab
