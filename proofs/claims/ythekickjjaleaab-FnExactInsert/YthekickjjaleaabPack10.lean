import Derived.Test.YthekickjjaleaabPack09
/- The laws' marks over entries and caches: markEntryS, heldEntryS, markTlb, heldTlb. -/
namespace Go.Proofs.Ythekickjjaleaab
open Go.RowKit
set_option linter.unusedVariables false
attribute [local go_sem ↓] Go.wp_at_zero Go.wp_at_succ

/-- The value of cell t of entries that were marked from k0 on. -/
def mkE (k0 : Int) (t : Nat) : Value := match t % 6 with
  | 0 => .bool ((k0 + t) % 3 == 0)
  | 1 => .int .i64 (k0 + t)
  | 4 => .bool ((k0 + t) % 3 == 0)
  | _ => .int .u64 (k0 + t)
def mkEs (k0 : Int) (m : Nat) : List Value := (List.range m).map (mkE k0)

theorem mkE_at (k0 : Int) (m t : Nat) (h : t < m) : (mkEs k0 m)[t]? = some (mkE k0 t) := by
  simp [mkEs, h]

theorem mkE0 (k0 : Int) (j : Nat) : mkE k0 (j * 6) = (.bool ((k0 + j * 6) % 3 == 0)) := by
  unfold mkE
  rw [show (j * 6) % 6 = 0 by omega]
  simp only
  push_cast
  congr 1 <;> (first | (congr 2; omega) | omega)
theorem mkE1 (k0 : Int) (j : Nat) : mkE k0 (j * 6 + 1) = (.int .i64 (k0 + j * 6 + 1)) := by
  unfold mkE
  rw [show (j * 6 + 1) % 6 = 1 by omega]
  simp only
  push_cast
  congr 1 <;> (first | (congr 2; omega) | omega)
theorem mkE2 (k0 : Int) (j : Nat) : mkE k0 (j * 6 + 2) = (.int .u64 (k0 + j * 6 + 1 + 1)) := by
  unfold mkE
  rw [show (j * 6 + 2) % 6 = 2 by omega]
  simp only
  push_cast
  congr 1 <;> (first | (congr 2; omega) | omega)
theorem mkE3 (k0 : Int) (j : Nat) : mkE k0 (j * 6 + 3) = (.int .u64 (k0 + j * 6 + 1 + 1 + 1)) := by
  unfold mkE
  rw [show (j * 6 + 3) % 6 = 3 by omega]
  simp only
  push_cast
  congr 1 <;> (first | (congr 2; omega) | omega)
theorem mkE4 (k0 : Int) (j : Nat) : mkE k0 (j * 6 + 4) = (.bool ((k0 + j * 6 + 1 + 1 + 1 + 1) % 3 == 0)) := by
  unfold mkE
  rw [show (j * 6 + 4) % 6 = 4 by omega]
  simp only
  push_cast
  congr 1 <;> (first | (congr 2; omega) | omega)
theorem mkE5 (k0 : Int) (j : Nat) : mkE k0 (j * 6 + 5) = (.int .u64 (k0 + j * 6 + 1 + 1 + 1 + 1 + 1)) := by
  unfold mkE
  rw [show (j * 6 + 5) % 6 = 5 by omega]
  simp only
  push_cast
  congr 1 <;> (first | (congr 2; omega) | omega)

theorem mkE_step (k0 : Int) (j m : Nat) (ys : List Value) (hy : ys.length = m) (hi : j * 6 + 5 < m) (h : ∀ t, t < j * 6 → ys[t]? = some (mkE k0 t)) :
    ∀ t, t < (j + 1) * 6 → ((((((ys.set (j * 6) (.bool ((k0 + j * 6) % 3 == 0))).set (j * 6 + 1) (.int .i64 (k0 + j * 6 + 1))).set (j * 6 + 2) (.int .u64 (k0 + j * 6 + 1 + 1))).set (j * 6 + 3) (.int .u64 (k0 + j * 6 + 1 + 1 + 1))).set (j * 6 + 4) (.bool ((k0 + j * 6 + 1 + 1 + 1 + 1) % 3 == 0))).set (j * 6 + 5) (.int .u64 (k0 + j * 6 + 1 + 1 + 1 + 1 + 1)))[t]? = some (mkE k0 t) := by
  intro t ht
  by_cases h0 : t < j * 6
  · rw [List.getElem?_set_ne (by omega), List.getElem?_set_ne (by omega), List.getElem?_set_ne (by omega), List.getElem?_set_ne (by omega), List.getElem?_set_ne (by omega), List.getElem?_set_ne (by omega)]
    exact h t h0
  · rcases (show t = j * 6 ∨ t = j * 6 + 1 ∨ t = j * 6 + 2 ∨ t = j * 6 + 3 ∨ t = j * 6 + 4 ∨ t = j * 6 + 5 by omega) with rfl | rfl | rfl | rfl | rfl | rfl
    · rw [List.getElem?_set_ne (by omega), List.getElem?_set_ne (by omega), List.getElem?_set_ne (by omega), List.getElem?_set_ne (by omega), List.getElem?_set_ne (by omega), List.getElem?_set_self (by omega), mkE0]
    · rw [List.getElem?_set_ne (by omega), List.getElem?_set_ne (by omega), List.getElem?_set_ne (by omega), List.getElem?_set_ne (by omega), List.getElem?_set_self (by simp; omega), mkE1]
    · rw [List.getElem?_set_ne (by omega), List.getElem?_set_ne (by omega), List.getElem?_set_ne (by omega), List.getElem?_set_self (by simp; omega), mkE2]
    · rw [List.getElem?_set_ne (by omega), List.getElem?_set_ne (by omega), List.getElem?_set_self (by simp; omega), mkE3]
    · rw [List.getElem?_set_ne (by omega), List.getElem?_set_self (by simp; omega), mkE4]
    · rw [List.getElem?_set_self (by simp; omega), mkE5]

set_option maxRecDepth 20000 in
set_option maxHeartbeats 1600000 in
theorem markEntryS_any (base g n cap : Nat) (cs : List Value) (k0 : Int) (w : World) (h : w.ownsRow base 75 6 (.slice (some ⟨g, 0, none⟩) n cap) n cs) (hl : n ≤ 1048576) (hk0 : 0 ≤ k0) (hk1 : k0 ≤ 1073741824) :
    Calls Try.prog 108 #[.slice (some ⟨g, 0, none⟩) n cap, .int .i64 k0] w fun e w' =>
      e = .returned (.int .i64 (k0 + n * 6)) ∧ w'.ownsRow base 75 6 (.slice (some ⟨g, 0, none⟩) n cap) n (mkEs k0 (n * 6)) ∧ w.grownBy w' (some g) := by
  have HI : Hid _ := h
  clear h
  go_enter Try.func108, Try.ntmps108
  go_wp2_with fail
  go_loopw [1, 5] (fun kk i wr => ∃ (j : Nat) (ys : List Value), j ≤ n ∧ kk = .int .i64 (k0 + j * 6) ∧ i = .int .i64 j ∧ (∀ t, t < j * 6 → ys[t]? = some (mkE k0 t)) ∧ wr.ownsRow base 75 6 (.slice (some ⟨g, 0, none⟩) n cap) n ys ∧ w.grownBy wr (some g)) (fun _ i _ => n - (intOf i).toNat)
  case atStart => exact ⟨0, cs, Nat.zero_le _, by simp, rfl, fun t ht => absurd ht (by omega), HI.out, gb_refl _ _⟩
  case round =>
    clear HI
    obtain ⟨j, ys, hj, rfl, rfl, hyz, hb, hn⟩ := hrel
    have hy := hb.1
    by_cases hlt : j < n
    · have y0 := own_cell hb (j * 6) _ (List.getElem?_eq_getElem (by omega))
      have y1 := own_cell hb (j * 6 + 1) _ (List.getElem?_eq_getElem (by omega))
      have y2 := own_cell hb (j * 6 + 2) _ (List.getElem?_eq_getElem (by omega))
      have y3 := own_cell hb (j * 6 + 3) _ (List.getElem?_eq_getElem (by omega))
      have y4 := own_cell hb (j * 6 + 4) _ (List.getElem?_eq_getElem (by omega))
      have y5 := own_cell hb (j * 6 + 5) _ (List.getElem?_eq_getElem (by omega))
      generalize ys[j * 6]'_ = z0 at y0
      generalize ys[j * 6 + 1]'_ = z1 at y1
      generalize ys[j * 6 + 2]'_ = z2 at y2
      generalize ys[j * 6 + 3]'_ = z3 at y3
      generalize ys[j * 6 + 4]'_ = z4 at y4
      generalize ys[j * 6 + 5]'_ = z5 at y5
      have r0 := own_free hb (j * 6)
      have r1 := own_free hb (j * 6 + 1)
      have r2 := own_free hb (j * 6 + 2)
      have r3 := own_free hb (j * 6 + 3)
      have r4 := own_free hb (j * 6 + 4)
      have r5 := own_free hb (j * 6 + 5)
      have HZ : Hid (∀ t, t < j * 6 → ys[t]? = some (mkE k0 t)) := hyz
      have HB : Hid (wr.ownsRow base 75 6 (.slice (some ⟨g, 0, none⟩) n cap) n ys) := hb
      clear hyz hb
      go_wp2_with fail
      go_roundw
      case rel => exact ⟨j + 1, _, by omega, by go_num, by go_num, mkE_step k0 j (n * 6) ys hy (by omega) HZ.out, (own_store (own_store (own_store (own_store (own_store (own_store HB.out _ _) _ _) _ _) _ _) _ _) _ _), (gb_set (gb_set (gb_set (gb_set (gb_set (gb_set hn _ _) _ _) _ _) _ _) _ _) _ _)⟩
      case measure => simp [intOf]; omega
    · have hyy : ys = mkEs k0 (n * 6) := by
        apply List.ext_getElem?
        intro t
        by_cases ht : t < n * 6
        · rw [mkE_at k0 _ t ht]; exact hyz t (by omega)
        · rw [List.getElem?_eq_none (by omega), List.getElem?_eq_none (by simp [mkEs]; omega)]
      subst hyy
      have hjl : j = n := by omega
      subst hjl
      have HB : Hid _ := hb
      clear hyz hb hy
      go_wp2_with fail
      go_ret
      exact ⟨rfl, HB.out, hn⟩

set_option maxRecDepth 20000 in
set_option maxHeartbeats 1600000 in
theorem heldEntryS_any (base g n cap : Nat) (k0 : Int) (w : World) (h : w.ownsRow base 75 6 (.slice (some ⟨g, 0, none⟩) n cap) n (mkEs k0 (n * 6))) (hl : n ≤ 1048576) (hk0 : 0 ≤ k0) (hk1 : k0 ≤ 1073741824) :
    Calls Try.prog 109 #[.slice (some ⟨g, 0, none⟩) n cap, .int .i64 k0] w fun e w' =>
      e = .returned (.int .i64 (k0 + n * 6)) ∧ Below w.heap.size w w' := by
  have hg := (own_at h).2.2
  simp only at hg
  go_enter Try.func109, Try.ntmps109
  go_wp2_with fail
  go_loopw [1, 5] (fun kk i wr => ∃ (j : Nat), j ≤ n ∧ kk = .int .i64 (k0 + j * 6) ∧ i = .int .i64 j ∧ Below w.heap.size w wr) (fun _ i _ => n - (intOf i).toNat)
  case atStart => exact ⟨0, Nat.zero_le _, by simp, rfl, Below.refl _ _⟩
  case round =>
    obtain ⟨j, hj, rfl, rfl, hn⟩ := hrel
    by_cases hlt : j < n
    · have g0 := Below.cell2 hn (own_cell h (j * 6) _ (mkE_at k0 _ (j * 6) (by omega))) hg
      rw [mkE0] at g0
      have g1 := Below.cell2 hn (own_cell h (j * 6 + 1) _ (mkE_at k0 _ (j * 6 + 1) (by omega))) hg
      rw [mkE1] at g1
      have g2 := Below.cell2 hn (own_cell h (j * 6 + 2) _ (mkE_at k0 _ (j * 6 + 2) (by omega))) hg
      rw [mkE2] at g2
      have g3 := Below.cell2 hn (own_cell h (j * 6 + 3) _ (mkE_at k0 _ (j * 6 + 3) (by omega))) hg
      rw [mkE3] at g3
      have g4 := Below.cell2 hn (own_cell h (j * 6 + 4) _ (mkE_at k0 _ (j * 6 + 4) (by omega))) hg
      rw [mkE4] at g4
      have g5 := Below.cell2 hn (own_cell h (j * 6 + 5) _ (mkE_at k0 _ (j * 6 + 5) (by omega))) hg
      rw [mkE5] at g5
      clear h
      go_wp2_with fail
      go_roundw
      case rel => exact ⟨j + 1, by omega, by go_num, by go_num, hn⟩
      case measure => simp [intOf]; omega
    · have hjl : j = n := by omega
      subst hjl
      clear h
      go_wp2_with fail
      go_ret
      exact ⟨rfl, hn⟩

theorem markEntryS_nil (a : Option Addr) (cap : Nat) (k0 : Int) (w : World) :
    Calls Try.prog 108 #[.slice a 0 cap, .int .i64 k0] w fun e w' => e = .returned (.int .i64 k0) ∧ w' = w := by
  go_enter Try.func108, Try.ntmps108
  go_wp2_with fail
  go_loop [1, 5] (fun kk i => kk = .int .i64 k0 ∧ i = .int .i64 0) (fun _ i => 0)
  case atStart => exact ⟨rfl, rfl⟩
  case round =>
    obtain ⟨rfl, rfl⟩ := hrel
    go_wp2_with fail
    go_ret
    exact ⟨rfl, rfl⟩

theorem heldEntryS_nil (a : Option Addr) (cap : Nat) (k0 : Int) (w : World) :
    Calls Try.prog 109 #[.slice a 0 cap, .int .i64 k0] w fun e w' => e = .returned (.int .i64 k0) ∧ w' = w := by
  go_enter Try.func109, Try.ntmps109
  go_wp2_with fail
  go_loop [1, 5] (fun kk i => kk = .int .i64 k0 ∧ i = .int .i64 0) (fun _ i => 0)
  case atStart => exact ⟨rfl, rfl⟩
  case round =>
    obtain ⟨rfl, rfl⟩ := hrel
    go_wp2_with fail
    go_ret
    exact ⟨rfl, rfl⟩

theorem markTlb_nil (sets ways : Int) (a : Option Addr) (cap : Nat) (k0 : Int) (w : World) :
    Calls Try.prog 52 #[.agg #[.int .i64 sets, .int .i64 ways, .slice a 0 cap], .int .i64 k0] w fun e w' => e = .returned (.int .i64 k0) ∧ Below w.heap.size w w' := by
  have b1 := (Below.refl w.heap.size w).alloc (Nat.le_refl _) (Obj.cells #[.int .i64 sets, .int .i64 ways, .slice a 0 cap] 63)
  go_enter Try.func52, Try.ntmps52
  go_wp2_with (go_at_call 108; refine (markEntryS_nil a cap k0 _).mono ?_; rintro e w' ⟨rfl, rfl⟩)
  go_ret
  exact ⟨rfl, b1⟩

theorem markTlb_any (sets ways : Int) (base g n cap : Nat) (cs : List Value) (k0 : Int) (w : World) (h : w.ownsRow base 75 6 (.slice (some ⟨g, 0, none⟩) n cap) n cs) (hl : n ≤ 1048576) (hk0 : 0 ≤ k0) (hk1 : k0 ≤ 1073741824) :
    Calls Try.prog 52 #[.agg #[.int .i64 sets, .int .i64 ways, .slice (some ⟨g, 0, none⟩) n cap], .int .i64 k0] w fun e w' =>
      e = .returned (.int .i64 (k0 + n * 6)) ∧ w'.ownsRow base 75 6 (.slice (some ⟨g, 0, none⟩) n cap) n (mkEs k0 (n * 6)) ∧ w.grownBy w' (some g) := by
  have m1 := World.grownBy_alloc w (Obj.cells #[.int .i64 sets, .int .i64 ways, .slice (some ⟨g, 0, none⟩) n cap] 63) (some g)
  have h1 : Hid ((w.alloc (Obj.cells #[.int .i64 sets, .int .i64 ways, .slice (some ⟨g, 0, none⟩) n cap] 63)).ownsRow base 75 6 (.slice (some ⟨g, 0, none⟩) n cap) n cs) := own_below h ((Below.refl w.heap.size w).alloc (Nat.le_refl _) _)
  clear h
  go_enter Try.func52, Try.ntmps52
  go_wp2_with fail
  refine (markEntryS_any base g n cap cs k0 _ h1.out hl hk0 hk1).mono ?_
  rintro e v2 ⟨rfl, c2, m2⟩
  have C2 : Hid _ := c2
  have m12 := gb_trans m1 m2
  clear m1 m2 h1 c2
  go_wp2_with fail
  go_ret
  exact ⟨rfl, C2.out, m12⟩

theorem heldTlb_nil (sets ways : Int) (a : Option Addr) (cap : Nat) (k0 : Int) (w : World) (hk0 : 0 ≤ k0) :
    Calls Try.prog 53 #[.agg #[.int .i64 sets, .int .i64 ways, .slice a 0 cap], .int .i64 k0] w fun e w' => e = .returned (.int .i64 k0) ∧ Below w.heap.size w w' := by
  have b1 := (Below.refl w.heap.size w).alloc (Nat.le_refl _) (Obj.cells #[.int .i64 sets, .int .i64 ways, .slice a 0 cap] 63)
  have hk : decide (k0 < 0) = false := by simp; omega
  go_enter Try.func53, Try.ntmps53
  go_wp2_with (go_at_call 109; refine (heldEntryS_nil a cap k0 _).mono ?_; rintro e w' ⟨rfl, rfl⟩)
  go_ret
  exact ⟨rfl, b1⟩

theorem heldTlb_any (sets ways : Int) (base g n cap : Nat) (k0 : Int) (w : World) (h : w.ownsRow base 75 6 (.slice (some ⟨g, 0, none⟩) n cap) n (mkEs k0 (n * 6))) (hl : n ≤ 1048576) (hk0 : 0 ≤ k0) (hk1 : k0 ≤ 1073741824) :
    Calls Try.prog 53 #[.agg #[.int .i64 sets, .int .i64 ways, .slice (some ⟨g, 0, none⟩) n cap], .int .i64 k0] w fun e w' => e = .returned (.int .i64 (k0 + n * 6)) ∧ Below w.heap.size w w' := by
  have b1 := (Below.refl w.heap.size w).alloc (Nat.le_refl _) (Obj.cells #[.int .i64 sets, .int .i64 ways, .slice (some ⟨g, 0, none⟩) n cap] 63)
  have h1 : Hid ((w.alloc (Obj.cells #[.int .i64 sets, .int .i64 ways, .slice (some ⟨g, 0, none⟩) n cap] 63)).ownsRow base 75 6 (.slice (some ⟨g, 0, none⟩) n cap) n (mkEs k0 (n * 6))) := own_below h b1
  have hk : decide (k0 + n * 6 < 0) = false := by simp; omega
  clear h
  go_enter Try.func53, Try.ntmps53
  go_wp2_with fail
  refine (heldEntryS_any base g n cap k0 _ h1.out hl hk0 hk1).mono ?_
  rintro e v2 ⟨rfl, n2⟩
  have b2 := Below.step b1 n2 (Nat.le_refl _)
  clear b1 n2 h1
  go_wp2_with fail
  go_ret
  exact ⟨rfl, b2⟩

end Go.Proofs.Ythekickjjaleaab
