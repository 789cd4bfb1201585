import Derived.Test.YthekickjjaleaabPack09
import Derived.Test.YthekickjjaleaabPack07
import Derived.Test.YthekickjjaleaabPack08
import Derived.Test.YthekickjjaleaabPack06
import Derived.Laws.CopyRow
import Derived.Laws.CopyOwn
/- The laws' marks over entries and caches: markEntryS, heldEntryS, markTlb, heldTlb. -/
namespace Go.Proofs.Ythekickjjaleaab
open Go.RowKit
set_option linter.unusedVariables false
attribute [local go_sem ↓] Go.wp_at_zero Go.wp_at_succ

/-- The value of cell t of entries that were marked from k0 on. -/
def mkE (k0 : Int) (t : Nat) : Value := match t % 6 with
  | 0 => .bool ((k0 + t) % 3 == 0)
  | 1 => .int .i64 (k0 + t)
  | 4 => .bool ((k0 + t) % 3 == 0)
  | _ => .int .u64 (k0 + t)
def mkEs (k0 : Int) (m : Nat) : List Value := (List.range m).map (mkE k0)

theorem mkE_at (k0 : Int) (m t : Nat) (h : t < m) : (mkEs k0 m)[t]? = some (mkE k0 t) := by
  simp [mkEs, h]

theorem mkE0 (k0 : Int) (j : Nat) : mkE k0 (j * 6) = (.bool ((k0 + j * 6) % 3 == 0)) := by
  unfold mkE
  rw [show (j * 6) % 6 = 0 by omega]
  simp only
  push_cast
  congr 1 <;> (first | (congr 2; omega) | omega)
theorem mkE1 (k0 : Int) (j : Nat) : mkE k0 (j * 6 + 1) = (.int .i64 (k0 + j * 6 + 1)) := by
  unfold mkE
  rw [show (j * 6 + 1) % 6 = 1 by omega]
  simp only
  push_cast
  congr 1 <;> (first | (congr 2; omega) | omega)
theorem mkE2 (k0 : Int) (j : Nat) : mkE k0 (j * 6 + 2) = (.int .u64 (k0 + j * 6 + 1 + 1)) := by
  unfold mkE
  rw [show (j * 6 + 2) % 6 = 2 by omega]
  simp only
  push_cast
  congr 1 <;> (first | (congr 2; omega) | omega)
theorem mkE3 (k0 : Int) (j : Nat) : mkE k0 (j * 6 + 3) = (.int .u64 (k0 + j * 6 + 1 + 1 + 1)) := by
  unfold mkE
  rw [show (j * 6 + 3) % 6 = 3 by omega]
  simp only
  push_cast
  congr 1 <;> (first | (congr 2; omega) | omega)
theorem mkE4 (k0 : Int) (j : Nat) : mkE k0 (j * 6 + 4) = (.bool ((k0 + j * 6 + 1 + 1 + 1 + 1) % 3 == 0)) := by
  unfold mkE
  rw [show (j * 6 + 4) % 6 = 4 by omega]
  simp only
  push_cast
  congr 1 <;> (first | (congr 2; omega) | omega)
theorem mkE5 (k0 : Int) (j : Nat) : mkE k0 (j * 6 + 5) = (.int .u64 (k0 + j * 6 + 1 + 1 + 1 + 1 + 1)) := by
  unfold mkE
  rw [show (j * 6 + 5) % 6 = 5 by omega]
  simp only
  push_cast
  congr 1 <;> (first | (congr 2; omega) | omega)

theorem mkE_step (k0 : Int) (j m : Nat) (ys : List Value) (hy : ys.length = m) (hi : j * 6 + 5 < m) (h : ∀ t, t < j * 6 → ys[t]? = some (mkE k0 t)) :
    ∀ t, t < (j + 1) * 6 → ((((((ys.set (j * 6) (.bool ((k0 + j * 6) % 3 == 0))).set (j * 6 + 1) (.int .i64 (k0 + j * 6 + 1))).set (j * 6 + 2) (.int .u64 (k0 + j * 6 + 1 + 1))).set (j * 6 + 3) (.int .u64 (k0 + j * 6 + 1 + 1 + 1))).set (j * 6 + 4) (.bool ((k0 + j * 6 + 1 + 1 + 1 + 1) % 3 == 0))).set (j * 6 + 5) (.int .u64 (k0 + j * 6 + 1 + 1 + 1 + 1 + 1)))[t]? = some (mkE k0 t) := by
  intro t ht
  by_cases h0 : t < j * 6
  · rw [List.getElem?_set_ne (by omega), List.getElem?_set_ne (by omega), List.getElem?_set_ne (by omega), List.getElem?_set_ne (by omega), List.getElem?_set_ne (by omega), List.getElem?_set_ne (by omega)]
    exact h t h0
  · rcases (show t = j * 6 ∨ t = j * 6 + 1 ∨ t = j * 6 + 2 ∨ t = j * 6 + 3 ∨ t = j * 6 + 4 ∨ t = j * 6 + 5 by omega) with rfl | rfl | rfl | rfl | rfl | rfl
    · rw [List.getElem?_set_ne (by omega), List.getElem?_set_ne (by omega), List.getElem?_set_ne (by omega), List.getElem?_set_ne (by omega), List.getElem?_set_ne (by omega), List.getElem?_set_self (by omega), mkE0]
    · rw [List.getElem?_set_ne (by omega), List.getElem?_set_ne (by omega), List.getElem?_set_ne (by omega), List.getElem?_set_ne (by omega), List.getElem?_set_self (by simp; omega), mkE1]
    · rw [List.getElem?_set_ne (by omega), List.getElem?_set_ne (by omega), List.getElem?_set_ne (by omega), List.getElem?_set_self (by simp; omega), mkE2]
    · rw [List.getElem?_set_ne (by omega), List.getElem?_set_ne (by omega), List.getElem?_set_self (by simp; omega), mkE3]
    · rw [List.getElem?_set_ne (by omega), List.getElem?_set_self (by simp; omega), mkE4]
    · rw [List.getElem?_set_self (by simp; omega), mkE5]

set_option maxRecDepth 20000 in
set_option maxHeartbeats 1600000 in
theorem markEntryS_any (base g n cap : Nat) (cs : List Value) (k0 : Int) (w : World) (h : w.ownsRow base 75 6 (.slice (some ⟨g, 0, none⟩) n cap) n cs) (hl : n ≤ 1048576) (hk0 : 0 ≤ k0) (hk1 : k0 ≤ 1073741824) :
    Calls Try.prog 108 #[.slice (some ⟨g, 0, none⟩) n cap, .int .i64 k0] w fun e w' =>
      e = .returned (.int .i64 (k0 + n * 6)) ∧ w'.ownsRow base 75 6 (.slice (some ⟨g, 0, none⟩) n cap) n (mkEs k0 (n * 6)) ∧ w.grownBy w' (some g) := by
  have HI : Hid _ := h
  clear h
  go_enter Try.func108, Try.ntmps108
  go_wp2_with fail
  go_loopw [1, 5] (fun kk i wr => ∃ (j : Nat) (ys : List Value), j ≤ n ∧ kk = .int .i64 (k0 + j * 6) ∧ i = .int .i64 j ∧ (∀ t, t < j * 6 → ys[t]? = some (mkE k0 t)) ∧ wr.ownsRow base 75 6 (.slice (some ⟨g, 0, none⟩) n cap) n ys ∧ w.grownBy wr (some g)) (fun _ i _ => n - (intOf i).toNat)
  case atStart => exact ⟨0, cs, Nat.zero_le _, by simp, rfl, fun t ht => absurd ht (by omega), HI.out, gb_refl _ _⟩
  case round =>
    clear HI
    obtain ⟨j, ys, hj, rfl, rfl, hyz, hb, hn⟩ := hrel
    have hy := hb.1
    by_cases hlt : j < n
    · have y0 := own_cell hb (j * 6) _ (List.getElem?_eq_getElem (by omega))
      have y1 := own_cell hb (j * 6 + 1) _ (List.getElem?_eq_getElem (by omega))
      have y2 := own_cell hb (j * 6 + 2) _ (List.getElem?_eq_getElem (by omega))
      have y3 := own_cell hb (j * 6 + 3) _ (List.getElem?_eq_getElem (by omega))
      have y4 := own_cell hb (j * 6 + 4) _ (List.getElem?_eq_getElem (by omega))
      have y5 := own_cell hb (j * 6 + 5) _ (List.getElem?_eq_getElem (by omega))
      generalize ys[j * 6]'_ = z0 at y0
      generalize ys[j * 6 + 1]'_ = z1 at y1
      generalize ys[j * 6 + 2]'_ = z2 at y2
      generalize ys[j * 6 + 3]'_ = z3 at y3
      generalize ys[j * 6 + 4]'_ = z4 at y4
      generalize ys[j * 6 + 5]'_ = z5 at y5
      have r0 := own_free hb (j * 6)
      have r1 := own_free hb (j * 6 + 1)
      have r2 := own_free hb (j * 6 + 2)
      have r3 := own_free hb (j * 6 + 3)
      have r4 := own_free hb (j * 6 + 4)
      have r5 := own_free hb (j * 6 + 5)
      have HZ : Hid (∀ t, t < j * 6 → ys[t]? = some (mkE k0 t)) := hyz
      have HB : Hid (wr.ownsRow base 75 6 (.slice (some ⟨g, 0, none⟩) n cap) n ys) := hb
      clear hyz hb
      go_wp2_with fail
      go_roundw
      case rel => exact ⟨j + 1, _, by omega, by go_num, by go_num, mkE_step k0 j (n * 6) ys hy (by omega) HZ.out, (own_store (own_store (own_store (own_store (own_store (own_store HB.out _ _) _ _) _ _) _ _) _ _) _ _), (gb_set (gb_set (gb_set (gb_set (gb_set (gb_set hn _ _) _ _) _ _) _ _) _ _) _ _)⟩
      case measure => simp [intOf]; omega
    · have hyy : ys = mkEs k0 (n * 6) := by
        apply List.ext_getElem?
        intro t
        by_cases ht : t < n * 6
        · rw [mkE_at k0 _ t ht]; exact hyz t (by omega)
        · rw [List.getElem?_eq_none (by omega), List.getElem?_eq_none (by simp [mkEs]; omega)]
      subst hyy
      have hjl : j = n := by omega
      subst hjl
      have HB : Hid _ := hb
      clear hyz hb hy
      go_wp2_with fail
      go_ret
      exact ⟨rfl, HB.out, hn⟩

set_option maxRecDepth 20000 in
set_option maxHeartbeats 1600000 in
theorem heldEntryS_any (base g n cap : Nat) (k0 : Int) (w : World) (h : w.ownsRow base 75 6 (.slice (some ⟨g, 0, none⟩) n cap) n (mkEs k0 (n * 6))) (hl : n ≤ 1048576) (hk0 : 0 ≤ k0) (hk1 : k0 ≤ 1073741824) :
    Calls Try.prog 109 #[.slice (some ⟨g, 0, none⟩) n cap, .int .i64 k0] w fun e w' =>
      e = .returned (.int .i64 (k0 + n * 6)) ∧ Below w.heap.size w w' := by
  have hg := (own_at h).2.2
  simp only at hg
  go_enter Try.func109, Try.ntmps109
  go_wp2_with fail
  go_loopw [1, 5] (fun kk i wr => ∃ (j : Nat), j ≤ n ∧ kk = .int .i64 (k0 + j * 6) ∧ i = .int .i64 j ∧ Below w.heap.size w wr) (fun _ i _ => n - (intOf i).toNat)
  case atStart => exact ⟨0, Nat.zero_le _, by simp, rfl, Below.refl _ _⟩
  case round =>
    obtain ⟨j, hj, rfl, rfl, hn⟩ := hrel
    by_cases hlt : j < n
    · have g0 := Below.cell2 hn (own_cell h (j * 6) _ (mkE_at k0 _ (j * 6) (by omega))) hg
      rw [mkE0] at g0
      have g1 := Below.cell2 hn (own_cell h (j * 6 + 1) _ (mkE_at k0 _ (j * 6 + 1) (by omega))) hg
      rw [mkE1] at g1
      have g2 := Below.cell2 hn (own_cell h (j * 6 + 2) _ (mkE_at k0 _ (j * 6 + 2) (by omega))) hg
      rw [mkE2] at g2
      have g3 := Below.cell2 hn (own_cell h (j * 6 + 3) _ (mkE_at k0 _ (j * 6 + 3) (by omega))) hg
      rw [mkE3] at g3
      have g4 := Below.cell2 hn (own_cell h (j * 6 + 4) _ (mkE_at k0 _ (j * 6 + 4) (by omega))) hg
      rw [mkE4] at g4
      have g5 := Below.cell2 hn (own_cell h (j * 6 + 5) _ (mkE_at k0 _ (j * 6 + 5) (by omega))) hg
      rw [mkE5] at g5
      clear h
      go_wp2_with fail
      go_roundw
      case rel => exact ⟨j + 1, by omega, by go_num, by go_num, hn⟩
      case measure => simp [intOf]; omega
    · have hjl : j = n := by omega
      subst hjl
      clear h
      go_wp2_with fail
      go_ret
      exact ⟨rfl, hn⟩

theorem markEntryS_nil (a : Option Addr) (cap : Nat) (k0 : Int) (w : World) :
    Calls Try.prog 108 #[.slice a 0 cap, .int .i64 k0] w fun e w' => e = .returned (.int .i64 k0) ∧ w' = w := by
  go_enter Try.func108, Try.ntmps108
  go_wp2_with fail
  go_loop [1, 5] (fun kk i => kk = .int .i64 k0 ∧ i = .int .i64 0) (fun _ i => 0)
  case atStart => exact ⟨rfl, rfl⟩
  case round =>
    obtain ⟨rfl, rfl⟩ := hrel
    go_wp2_with fail
    go_ret
    exact ⟨rfl, rfl⟩

theorem heldEntryS_nil (a : Option Addr) (cap : Nat) (k0 : Int) (w : World) :
    Calls Try.prog 109 #[.slice a 0 cap, .int .i64 k0] w fun e w' => e = .returned (.int .i64 k0) ∧ w' = w := by
  go_enter Try.func109, Try.ntmps109
  go_wp2_with fail
  go_loop [1, 5] (fun kk i => kk = .int .i64 k0 ∧ i = .int .i64 0) (fun _ i => 0)
  case atStart => exact ⟨rfl, rfl⟩
  case round =>
    obtain ⟨rfl, rfl⟩ := hrel
    go_wp2_with fail
    go_ret
    exact ⟨rfl, rfl⟩

theorem markTlb_nil (sets ways : Int) (a : Option Addr) (cap : Nat) (k0 : Int) (w : World) :
    Calls Try.prog 52 #[.agg #[.int .i64 sets, .int .i64 ways, .slice a 0 cap], .int .i64 k0] w fun e w' => e = .returned (.int .i64 k0) ∧ Below w.heap.size w w' := by
  have b1 := (Below.refl w.heap.size w).alloc (Nat.le_refl _) (Obj.cells #[.int .i64 sets, .int .i64 ways, .slice a 0 cap] 63)
  go_enter Try.func52, Try.ntmps52
  go_wp2_with (go_at_call 108; refine (markEntryS_nil a cap k0 _).mono ?_; rintro e w' ⟨rfl, rfl⟩)
  go_ret
  exact ⟨rfl, b1⟩

theorem markTlb_any (sets ways : Int) (base g n cap : Nat) (cs : List Value) (k0 : Int) (w : World) (h : w.ownsRow base 75 6 (.slice (some ⟨g, 0, none⟩) n cap) n cs) (hl : n ≤ 1048576) (hk0 : 0 ≤ k0) (hk1 : k0 ≤ 1073741824) :
    Calls Try.prog 52 #[.agg #[.int .i64 sets, .int .i64 ways, .slice (some ⟨g, 0, none⟩) n cap], .int .i64 k0] w fun e w' =>
      e = .returned (.int .i64 (k0 + n * 6)) ∧ w'.ownsRow base 75 6 (.slice (some ⟨g, 0, none⟩) n cap) n (mkEs k0 (n * 6)) ∧ w.grownBy w' (some g) := by
  have m1 := World.grownBy_alloc w (Obj.cells #[.int .i64 sets, .int .i64 ways, .slice (some ⟨g, 0, none⟩) n cap] 63) (some g)
  have h1 : Hid ((w.alloc (Obj.cells #[.int .i64 sets, .int .i64 ways, .slice (some ⟨g, 0, none⟩) n cap] 63)).ownsRow base 75 6 (.slice (some ⟨g, 0, none⟩) n cap) n cs) := own_below h ((Below.refl w.heap.size w).alloc (Nat.le_refl _) _)
  clear h
  go_enter Try.func52, Try.ntmps52
  go_wp2_with fail
  refine (markEntryS_any base g n cap cs k0 _ h1.out hl hk0 hk1).mono ?_
  rintro e v2 ⟨rfl, c2, m2⟩
  have C2 : Hid _ := c2
  have m12 := gb_trans m1 m2
  clear m1 m2 h1 c2
  go_wp2_with fail
  go_ret
  exact ⟨rfl, C2.out, m12⟩

theorem heldTlb_nil (sets ways : Int) (a : Option Addr) (cap : Nat) (k0 : Int) (w : World) (hk0 : 0 ≤ k0) :
    Calls Try.prog 53 #[.agg #[.int .i64 sets, .int .i64 ways, .slice a 0 cap], .int .i64 k0] w fun e w' => e = .returned (.int .i64 k0) ∧ Below w.heap.size w w' := by
  have b1 := (Below.refl w.heap.size w).alloc (Nat.le_refl _) (Obj.cells #[.int .i64 sets, .int .i64 ways, .slice a 0 cap] 63)
  have hk : decide (k0 < 0) = false := by simp; omega
  go_enter Try.func53, Try.ntmps53
  go_wp2_with (go_at_call 109; refine (heldEntryS_nil a cap k0 _).mono ?_; rintro e w' ⟨rfl, rfl⟩)
  go_ret
  exact ⟨rfl, b1⟩

theorem heldTlb_any (sets ways : Int) (base g n cap : Nat) (k0 : Int) (w : World) (h : w.ownsRow base 75 6 (.slice (some ⟨g, 0, none⟩) n cap) n (mkEs k0 (n * 6))) (hl : n ≤ 1048576) (hk0 : 0 ≤ k0) (hk1 : k0 ≤ 1073741824) :
    Calls Try.prog 53 #[.agg #[.int .i64 sets, .int .i64 ways, .slice (some ⟨g, 0, none⟩) n cap], .int .i64 k0] w fun e w' => e = .returned (.int .i64 (k0 + n * 6)) ∧ Below w.heap.size w w' := by
  have b1 := (Below.refl w.heap.size w).alloc (Nat.le_refl _) (Obj.cells #[.int .i64 sets, .int .i64 ways, .slice (some ⟨g, 0, none⟩) n cap] 63)
  have h1 : Hid ((w.alloc (Obj.cells #[.int .i64 sets, .int .i64 ways, .slice (some ⟨g, 0, none⟩) n cap] 63)).ownsRow base 75 6 (.slice (some ⟨g, 0, none⟩) n cap) n (mkEs k0 (n * 6))) := own_below h b1
  have hk : decide (k0 + n * 6 < 0) = false := by simp; omega
  clear h
  go_enter Try.func53, Try.ntmps53
  go_wp2_with fail
  refine (heldEntryS_any base g n cap k0 _ h1.out hl hk0 hk1).mono ?_
  rintro e v2 ⟨rfl, n2⟩
  have b2 := Below.step b1 n2 (Nat.le_refl _)
  clear b1 n2 h1
  go_wp2_with fail
  go_ret
  exact ⟨rfl, b2⟩

end Go.Proofs.Ythekickjjaleaab

/- The slots of the program's caches: an entry's cells in another order. No program is named here. -/
namespace Go.Proofs.Ythekickjjaleaab
open Go.RowKit
set_option linter.unusedVariables false

def slotC (e : EntM) : List Value := [.int .i64 e.level, .int .u64 e.tag, .int .u64 e.asid, .bool e.glob, .bool e.valid, .int .u64 e.pte]
def slotV (e : EntM) : Value := .agg #[.int .i64 e.level, .int .u64 e.tag, .int .u64 e.asid, .bool e.glob, .bool e.valid, .int .u64 e.pte]

def slotsC : List EntM → List Value
  | [] => []
  | e :: r => slotC e ++ slotsC r

theorem slotsC_len : ∀ es : List EntM, (slotsC es).length = es.length * 6
  | [] => rfl
  | e :: r => by simp [slotsC, slotC, slotsC_len r]; omega

theorem slotsC_at : ∀ (es : List EntM) (i j : Nat) (hi : i < es.length), j < 6 → (slotsC es)[i * 6 + j]? = (slotC es[i])[j]?
  | e :: r, 0, j, hi, hj => by
    simp only [slotsC, List.getElem_cons_zero, Nat.zero_mul, Nat.zero_add]
    rw [List.getElem?_append_left (by simp [slotC]; exact hj)]
  | e :: r, i + 1, j, hi, hj => by
    simp only [slotsC, List.getElem_cons_succ]
    rw [List.getElem?_append_right (by simp [slotC]; omega)]
    rw [show (i + 1) * 6 + j - (slotC e).length = i * 6 + j by simp [slotC]; omega]
    exact slotsC_at r i j (by simpa using hi) hj

theorem slotsC_set : ∀ (l : List EntM) (k : Nat) (e : EntM), k < l.length → slotsC (l.set k e) = ((((((slotsC l).set (k * 6) (.int .i64 e.level)).set (k * 6 + 1) (.int .u64 e.tag)).set (k * 6 + 2) (.int .u64 e.asid)).set (k * 6 + 3) (.bool e.glob)).set (k * 6 + 4) (.bool e.valid)).set (k * 6 + 5) (.int .u64 e.pte)
  | x :: r, 0, e, h => by simp [slotsC, slotC]
  | x :: r, k + 1, e, h => by
    have ih := slotsC_set r k e (by simpa using h)
    rw [List.set_cons_succ]
    simp only [slotsC, ih]
    rw [show (k + 1) * 6 = (slotC x).length + k * 6 by simp [slotC]; omega]
    simp only [Nat.add_assoc]
    rw [List.set_append_right _ _ (by simp [slotC]), List.set_append_right _ _ (by omega), List.set_append_right _ _ (by omega), List.set_append_right _ _ (by omega), List.set_append_right _ _ (by omega), List.set_append_right _ _ (by omega)]
    simp

theorem slot_cell {e : TypeId} {w : World} {base g n cap : Nat} {es : List EntM} (h : w.ownsRow base e 6 (.slice (some ⟨g, 0, none⟩) n cap) n (slotsC es)) (hn : es.length = n) (k : Nat) (x : EntM) (hx : es[k]? = some x) (j : Nat) (v : Value) (hj : j < 6) (hv : (slotC x)[j]? = some v) :
    w.cell? ⟨g, k * 6 + j, none⟩ = some v := by
  have hk : k < es.length := (List.getElem?_eq_some_iff.1 hx).1
  refine own_cell h _ _ ?_
  rw [slotsC_at es k j hk hj]
  obtain ⟨_, rfl⟩ := List.getElem?_eq_some_iff.1 hx
  exact hv

/-- The first k entries, the rest empty. -/
def firstN (k n : Nat) (es : List EntM) : List EntM := es.take k ++ List.replicate (n - k) ent0

theorem firstN_len (k : Nat) (es : List EntM) (hk : k ≤ es.length) : (firstN k es.length es).length = es.length := by
  simp [firstN]; omega

theorem firstN_next (k : Nat) (es : List EntM) (x : EntM) (hx : es[k]? = some x) : firstN (k + 1) es.length es = (firstN k es.length es).set k x := by
  obtain ⟨hk, rfl⟩ := List.getElem?_eq_some_iff.1 hx
  unfold firstN
  apply List.ext_getElem?
  intro j
  rw [List.getElem?_set]
  by_cases hj : k = j
  · subst hj
    rw [if_pos rfl, if_pos (by simp; omega), List.getElem?_append_left (by simp; omega)]
    simp [hk]
  · rw [if_neg hj]
    by_cases hlt : j < k
    · rw [List.getElem?_append_left (by simp; omega), List.getElem?_append_left (by simp; omega)]
      simp [hlt, show j < k + 1 by omega]
    · rw [List.getElem?_append_right (by simp; omega), List.getElem?_append_right (by simp; omega)]
      simp only [List.length_take, List.getElem?_replicate]
      rw [show min (k + 1) es.length = k + 1 by omega, show min k es.length = k by omega]
      by_cases hh : j < es.length
      · rw [if_pos (by omega), if_pos (by omega)]
      · rw [if_neg (by omega), if_neg (by omega)]

theorem firstN_zero (k : Nat) (es : List EntM) (hx : es[k]? = some ent0) : firstN (k + 1) es.length es = firstN k es.length es := by
  rw [firstN_next k es ent0 hx]
  have hk : k < es.length := (List.getElem?_eq_some_iff.1 hx).1
  apply List.ext_getElem?
  intro j
  rw [List.getElem?_set]
  by_cases hj : k = j
  · subst hj
    rw [if_pos rfl, if_pos (by rw [firstN_len _ _ (by omega)]; exact hk)]
    unfold firstN
    rw [List.getElem?_append_right (by simp; omega)]
    simp only [List.length_take, List.getElem?_replicate]
    rw [if_pos (by omega)]
  · rw [if_neg hj]

theorem firstN_all (es : List EntM) : firstN es.length es.length es = es := by
  simp [firstN]

theorem slotsC_rep : ∀ n : Nat, slotsC (List.replicate n ent0) = (List.replicate n (slotC ent0)).flatten
  | 0 => rfl
  | n + 1 => by rw [List.replicate_succ, List.replicate_succ, slotsC, slotsC_rep n]; rfl

theorem firstN_start (n : Nat) (es : List EntM) : firstN 0 n es = List.replicate n ent0 := by simp [firstN]

theorem belS6 {B : Nat} {a w : World} {g : Nat} (h : Below B a w) (hg : B ≤ g) (x y z u v t : Value) : Below B a ((((((w.setCell ⟨g, 0, none⟩ x).setCell ⟨g, 1, none⟩ y).setCell ⟨g, 2, none⟩ z).setCell ⟨g, 3, none⟩ u).setCell ⟨g, 4, none⟩ v).setCell ⟨g, 5, none⟩ t) :=
  (((bel3 h hg x y z).setCell (p := ⟨g, 3, none⟩) hg u).setCell (p := ⟨g, 4, none⟩) hg v).setCell (p := ⟨g, 5, none⟩) hg t

theorem six_at {v : World} {p : Nat} {T : TypeId} {a b c d e f : Value} (h : v.heap[p]? = some (.cells #[a, b, c, d, e, f] T (0, 0))) :
    (v.cell? ⟨p, 0, none⟩ = some a ∧ v.cell? ⟨p, 1, none⟩ = some b ∧ v.cell? ⟨p, 2, none⟩ = some c ∧ v.cell? ⟨p, 3, none⟩ = some d ∧ v.cell? ⟨p, 4, none⟩ = some e ∧ v.cell? ⟨p, 5, none⟩ = some f) ∧
      (v.frozen? ⟨p, 0, none⟩ = false ∧ v.frozen? ⟨p, 1, none⟩ = false ∧ v.frozen? ⟨p, 2, none⟩ = false ∧ v.frozen? ⟨p, 3, none⟩ = false ∧ v.frozen? ⟨p, 4, none⟩ = false ∧ v.frozen? ⟨p, 5, none⟩ = false) := by
  simp [World.cell?, World.frozen?, h]

end Go.Proofs.Ythekickjjaleaab

/- A row of empty slots that is made, and a block beside it. No program is named here. -/
namespace Go.Proofs.Ythekickjjaleaab
open Go.RowKit
set_option linter.unusedVariables false

theorem made_rep (z : EntM) (n : Nat) : (madeCells (slotC z).toArray (n * 6)).toList = slotsC (List.replicate n z) := by
  apply List.ext_getElem?
  intro j
  by_cases hj : j < n * 6
  · have hq : j / 6 < (List.replicate n z).length := by simp; omega
    have := slotsC_at (List.replicate n z) (j / 6) (j % 6) hq (by omega)
    rw [show j / 6 * 6 + j % 6 = j by omega] at this
    rw [this]
    have h6 : j % 6 < (slotC z).length := by simp [slotC]; omega
    simp only [madeCells, List.getElem_replicate]
    rw [List.getElem?_eq_getElem h6]
    simp [hj, slotC]
    rw [List.getElem?_eq_getElem (by simpa [slotC] using h6)]
    rfl
  · rw [List.getElem?_eq_none (by simp [madeCells]; omega), List.getElem?_eq_none (by rw [slotsC_len]; simp; omega)]

theorem two_new1 (v : World) (T E : TypeId) (xs cs : Array Value) (ss : List Value) (n : Nat) (hcs : cs.toList = ss) (hn : ss.length = n * 6) (hm : n ≤ maxLen) :
    ((v.alloc (.cells cs E)).alloc (.cells xs T)).drew.heap[v.heap.size + 1]? = some (.cells xs T (0, 0)) ∧ ((v.alloc (.cells cs E)).alloc (.cells xs T)).drew.ownsRow v.heap.size E 6 (.slice (some ⟨v.heap.size, 0, none⟩) n n) n ss ∧
      Below v.heap.size v ((v.alloc (.cells cs E)).alloc (.cells xs T)).drew ∧ v.heap.size + 1 < ((v.alloc (.cells cs E)).alloc (.cells xs T)).drew.heap.size := by
  have hs : cs.size = n * 6 := by rw [← hn, ← hcs]; simp
  have h1 := World.ownsRow_lit (e := E) (size := 6) v cs n (Nat.le_refl v.heap.size) hm hs
  rw [hcs] at h1
  refine ⟨?_, own_below h1 (((Below.refl _ _).alloc (Nat.le_refl _) _).drew), (((Below.refl v.heap.size v).alloc (Nat.le_refl _) _).alloc (by simp) _).drew, ?_⟩
  · have := heap_alloc_new (v.alloc (.cells cs E)) (.cells xs T)
    simp only [World.size_alloc] at this
    exact this
  · show _ < ((v.alloc (.cells cs E)).alloc (.cells xs T)).heap.size
    simp

theorem two_new2 (v : World) (T E : TypeId) (xs cs : Array Value) (ss : List Value) (n : Nat) (hcs : cs.toList = ss) (hn : ss.length = n * 6) (hm : n ≤ maxLen) :
    ((v.alloc (.cells xs T)).alloc (.cells cs E)).drew.heap[v.heap.size]? = some (.cells xs T (0, 0)) ∧ ((v.alloc (.cells xs T)).alloc (.cells cs E)).drew.ownsRow v.heap.size E 6 (.slice (some ⟨v.heap.size + 1, 0, none⟩) n n) n ss ∧
      Below v.heap.size v ((v.alloc (.cells xs T)).alloc (.cells cs E)).drew ∧ v.heap.size < ((v.alloc (.cells xs T)).alloc (.cells cs E)).drew.heap.size := by
  have hs : cs.size = n * 6 := by rw [← hn, ← hcs]; simp
  have h1 := World.ownsRow_lit (e := E) (size := 6) (v.alloc (.cells xs T)) cs n (base := v.heap.size) (by simp) hm hs
  rw [hcs] at h1
  simp only [World.size_alloc] at h1
  refine ⟨?_, h1, (((Below.refl v.heap.size v).alloc (Nat.le_refl _) _).alloc (by simp) _).drew, ?_⟩
  · show ((v.alloc (.cells xs T)).alloc (.cells cs E)).heap[v.heap.size]? = _
    rw [heap_alloc_old _ _ (by simp)]
    exact heap_alloc_new v _
  · show _ < ((v.alloc (.cells xs T)).alloc (.cells cs E)).heap.size
    simp
    omega

theorem slotRow_cell {w : World} {g n : Nat} {es : List EntM} (h : RowC w (some ⟨g, 0, none⟩) n 6 (slotsC es)) (hn : es.length = n) (k : Nat) (x : EntM) (hx : es[k]? = some x) (j : Nat) (v : Value) (hj : j < 6) (hv : (slotC x)[j]? = some v) :
    w.cell? ⟨g, k * 6 + j, none⟩ = some v := by
  have hk : k < es.length := (List.getElem?_eq_some_iff.1 hx).1
  rcases h.2 with h0 | ⟨b', off', e, _, hc⟩
  · omega
  · simp at e
    obtain ⟨rfl, rfl⟩ := e
    have := hc (k * 6 + j) v (by
      rw [slotsC_at es k j hk hj]
      obtain ⟨_, rfl⟩ := List.getElem?_eq_some_iff.1 hx
      exact hv)
    rw [Nat.zero_add] at this
    exact this

theorem gb_of {w w' : World} {r : Option Nat} (h : Below w.heap.size w w') : w.grownBy w' r :=
  ⟨h.os, h.tape, h.output, h.size, fun i hi _ => h.block i hi⟩

theorem gb_drew (w : World) (r : Option Nat) : w.grownBy w.drew r := gb_of (Below.refl _ _).drew

theorem belH4 {B : Nat} {a w : World} {g : Nat} (h : Below B a w) (hg : B ≤ g) (x y z u : Value) : Below B a ((((w.setCell ⟨g, 0, none⟩ x).setCell ⟨g, 1, none⟩ y).setCell ⟨g, 2, none⟩ z).setCell ⟨g, 3, none⟩ u) :=
  (bel3 h hg x y z).setCell (p := ⟨g, 3, none⟩) hg u

/-- What a search in a cache answers; nothing where the cache is not valid. -/
def hitIf (q : Bool) (X : Bool × Int × Int × Int) : Bool × Int × Int × Int := if q = true then X else (false, 0, 0, 0)

def HitAns (q : Bool) (X : Bool × Int × Int × Int) (e : Ending) : Prop :=
  e = .returned (.tuple #[.agg #[.bool (hitIf q X).1, .int .i64 (hitIf q X).2.1, .int .i64 (hitIf q X).2.2.1, .int .u64 (hitIf q X).2.2.2], .bool q])

end Go.Proofs.Ythekickjjaleaab

/- A row of empty entries that is made; entries that are copied. -/
namespace Go.Proofs.Ythekickjjaleaab
open Go.RowKit
set_option linter.unusedVariables false

theorem made_ents (z : EntM) (n : Nat) : (madeCells (entC z).toArray (n * 6)).toList = entsC (List.replicate n z) := by
  apply List.ext_getElem?
  intro j
  by_cases hj : j < n * 6
  · have hq : j / 6 < (List.replicate n z).length := by simp; omega
    have := entsC_at (List.replicate n z) (j / 6) (j % 6) hq (by omega)
    rw [show j / 6 * 6 + j % 6 = j by omega] at this
    rw [this]
    have h6 : j % 6 < (entC z).length := by simp [entC]; omega
    simp only [madeCells, List.getElem_replicate]
    rw [List.getElem?_eq_getElem h6]
    simp [hj, entC]
    rw [List.getElem?_eq_getElem (by simpa [entC] using h6)]
    rfl
  · rw [List.getElem?_eq_none (by simp [madeCells]; omega), List.getElem?_eq_none (by rw [entsC_len]; simp; omega)]

theorem makeE (n : Nat) (hn : n ≤ 1048576) : ∃ cs : Array Value, cs.toList = entsC (List.replicate n ent0) ∧ ∀ u : World, (Instr.makeSlice 61 (.int .i64 (n : Int)) (.int .i64 (n : Int))).run Try.prog u = .ok (.slice (some ⟨u.heap.size, 0, none⟩) n n) (u.alloc (.cells cs 75)) := by
  obtain ⟨i0, hi, hz0, hz1, hz2⟩ := info_parts Try.infoEnt
  refine ⟨madeCells (Value.agg #[.bool false, .int .i64 0, .int .u64 0, .int .u64 0, .bool false, .int .u64 0]).cells (n * 6), ?_, fun u => ?_⟩
  · exact made_ents ent0 n
  · have := run_make (P := Try.prog) u 61 75 i0 _ Try.underlying61 hi hz0 .i64 .i64 n n (by omega) (Int.le_refl _) (by rw [hz2]; omega) (by omega)
    rw [hz1] at this
    simpa using this

/-- copy over a whole row of six cells an element. -/
theorem run_copy_six {P : Program} (w : World) (dT sT ty elem : TypeId) (g n dCap : Nat) (a : Addr) (sCap : Nat) (cur : Array Value) (t : TypeId) (cs : List Value)
    (hu : P.underlying dT = some (.slice elem)) (hs : (P.info? elem).map (·.size) = some 6) (hg : w.heap[g]? = some (.cells cur t (0, 0))) (hn : cs.length = n * 6)
    (hsrc : ∀ j v, cs[j]? = some v → w.cell? (a.add j) = some v) (hfit : cs.length = cur.size) (h1 : ∀ v ∈ cs, v.oneCell' = true) :
    (Builtin.copy_ #[dT, sT] ty #[.slice (some ⟨g, 0, none⟩) n dCap, .slice (some a) n sCap]).run P w = .ok (goInt n) (w.setRow g cs.toArray) := by
  have hl := run_loadCells_list (P := P) w a cs hsrc
  have hst := run_storeCells_at P g 0 t cs 0 cur w hg (by simp; omega) h1
  cases hq : P.info? elem with
  | none => simp [hq] at hs
  | some i =>
    have hi : i.size = 6 := by simpa [hq] using hs
    simp [Builtin.copy_, run_underlying hu, Builtin.lenOf, Builtin.firstCells, sizeOf, typeInfo, hq, hi, ← hn, hl, hst]
    rw [List.drop_of_length_le (by simp; omega), List.append_nil]

theorem wpList_copy_six {P : Program} {w : World} {ops : Array Oper} {rest : List Oper} {o : Oper} {a : Act} {Q : Exit → Act → World → Prop} (hgd : o.guard = none) (d s : Operand) (dT sT : TypeId)
    (ho : o.op = .call { callee := .builtin .copy, args := #[d, s], argTypes := #[dT, sT] }) (elem : TypeId) (hu : P.underlying dT = some (.slice elem)) (hsz : (P.info? elem).map (·.size) = some 6)
    (g n dCap : Nat) (sp : Option Addr) (sCap : Nat) (hd : a.eval d = .slice (some ⟨g, 0, none⟩) n dCap) (hs : a.eval s = .slice sp n sCap) (hnil : sp = none → n = 0 ∧ sCap = 0) (hspot : ∀ q, sp = some q → q.spot = none)
    (cur : Array Value) (t : TypeId) (hg : w.heap[g]? = some (.cells cur t (0, 0))) (cs : List Value) (hr : RowC w sp n 6 cs) (hfit : cur.size = n * 6) (h1 : ∀ v ∈ cs, v.oneCell' = true)
    (h : ∀ w', w'.heap[g]? = some (.cells cs.toArray t (0, 0)) → Below g w w' → wpList P ops Q rest (a.put o.dst (goInt n)) w') : wpList P ops Q (o :: rest) a w := by
  refine wpList_plain hgd fun K hK => ?_
  cases sp with
  | none =>
    obtain ⟨rfl, rfl⟩ := hnil rfl
    have hcs : cs = [] := by have := hr.1; simpa using this
    subst hcs
    have hcur : cur = #[] := by simpa using hfit
    subst hcur
    have hrun := run_copy_nil (P := P) w dT sT o.type elem ⟨g, 0, none⟩ 0 dCap hu (by
      cases hq : P.info? elem with
      | none => simp [hq] at hsz
      | some i => rfl)
    unfold Oper.wp
    simp [execOp, ho, resolve, invoke, builtin, hd, hs, hrun, Result.andThen]
    exact hK _ _ (h w hg (Below.refl _ _))
  | some q =>
    obtain ⟨b, off, spot⟩ := q
    have := hspot _ rfl
    simp only at this
    subst this
    have hrun := run_copy_six (P := P) w dT sT o.type elem g n dCap ⟨b, off, none⟩ sCap cur t cs hu hsz hg hr.1 (src_row hr) (by rw [hr.1, hfit]) h1
    unfold Oper.wp
    simp [execOp, ho, resolve, invoke, builtin, hd, hs, hrun, Result.andThen]
    exact hK _ _ (h _ (setRow_heap w g _ _ t _ hg) (below_setRow (Below.refl _ _) (Nat.le_refl _) _))

theorem Try.sizeEnt : (Try.prog.info? 75).map (·.size) = some 6 := by kernel_rfl

set_option maxHeartbeats 1600000 in
theorem copiedTlb_any (v : Value) (t : TlbM) (w : World) (h : TlbAt w v t) :
    Calls Try.prog 105 #[v] w fun e w' => (∃ x, e = .returned x ∧ TlbOwn w.heap.size w' x t) ∧ Below w.heap.size w w' := by
  obtain ⟨a, cap, rfl, hr, _, _, _, hl, hlc, hcm, hnil, hsp⟩ := h
  obtain ⟨sets, ways, es⟩ := t
  obtain ⟨n, hn⟩ : ∃ n, es.length = n := ⟨_, rfl⟩
  simp only at hr hl hlc hnil ⊢
  rw [hn] at hr hl hlc hnil ⊢
  have n1 := ((Below.refl w.heap.size w).alloc (Nat.le_refl _) (Obj.cells #[.int .i64 sets, .int .i64 ways, .slice a n cap] 63)).alloc (by simp) (Obj.cells #[.int .i64 0, .int .i64 0, .slice none 0 0] 63)
  have HR1 : Hid (RowC ((w.alloc (Obj.cells #[.int .i64 sets, .int .i64 ways, .slice a n cap] 63)).alloc (Obj.cells #[.int .i64 0, .int .i64 0, .slice none 0 0] 63)) a n 6 (entsC es)) := hr.keep n1
  have H1 : Hid (((w.alloc (Obj.cells #[.int .i64 sets, .int .i64 ways, .slice a n cap] 63)).alloc (Obj.cells #[.int .i64 0, .int .i64 0, .slice none 0 0] 63)).heap[w.heap.size]? = some (.cells #[.int .i64 sets, .int .i64 ways, .slice a n cap] 63 (0, 0))) := by
    show _ = _
    rw [heap_alloc_old _ _ (by simp)]
    exact heap_alloc_new w _
  have H2 : Hid (((w.alloc (Obj.cells #[.int .i64 sets, .int .i64 ways, .slice a n cap] 63)).alloc (Obj.cells #[.int .i64 0, .int .i64 0, .slice none 0 0] 63)).heap[w.heap.size + 1]? = some (.cells #[.int .i64 0, .int .i64 0, .slice none 0 0] 63 (0, 0))) := by
    have := heap_alloc_new (w.alloc (Obj.cells #[.int .i64 sets, .int .i64 ways, .slice a n cap] 63)) (Obj.cells #[.int .i64 0, .int .i64 0, .slice none 0 0] 63)
    simp only [World.size_alloc] at this
    exact this
  have l1 : w.heap.size + 1 < ((w.alloc (Obj.cells #[.int .i64 sets, .int .i64 ways, .slice a n cap] 63)).alloc (Obj.cells #[.int .i64 0, .int .i64 0, .slice none 0 0] 63)).heap.size := by simp
  have HNi : Hid (a = none → n = 0 ∧ cap = 0) := hnil
  have HSp : Hid (∀ q, a = some q → q.spot = none) := hsp
  obtain ⟨cs, hcs, hmk⟩ := makeE n hl
  have hcsz : cs.size = n * 6 := by
    have : cs.toList.length = n * 6 := by rw [hcs, entsC_len]; simp
    simpa using this
  have nV : Below ((w.alloc (Obj.cells #[.int .i64 sets, .int .i64 ways, .slice a n cap] 63)).alloc (Obj.cells #[.int .i64 0, .int .i64 0, .slice none 0 0] 63)).heap.size ((w.alloc (Obj.cells #[.int .i64 sets, .int .i64 ways, .slice a n cap] 63)).alloc (Obj.cells #[.int .i64 0, .int .i64 0, .slice none 0 0] 63)) (((w.alloc (Obj.cells #[.int .i64 sets, .int .i64 ways, .slice a n cap] 63)).alloc (Obj.cells #[.int .i64 0, .int .i64 0, .slice none 0 0] 63)).alloc (.cells cs 75)) := (Below.refl _ _).alloc (Nat.le_refl _) _
  have HG : Hid ((((w.alloc (Obj.cells #[.int .i64 sets, .int .i64 ways, .slice a n cap] 63)).alloc (Obj.cells #[.int .i64 0, .int .i64 0, .slice none 0 0] 63)).alloc (.cells cs 75)).heap[w.heap.size + 1 + 1]? = some (.cells cs 75 (0, 0))) := by
    have := heap_alloc_new ((w.alloc (Obj.cells #[.int .i64 sets, .int .i64 ways, .slice a n cap] 63)).alloc (Obj.cells #[.int .i64 0, .int .i64 0, .slice none 0 0] 63)) (.cells cs 75)
    simp only [World.size_alloc] at this
    exact this
  have HRv : Hid (RowC (((w.alloc (Obj.cells #[.int .i64 sets, .int .i64 ways, .slice a n cap] 63)).alloc (Obj.cells #[.int .i64 0, .int .i64 0, .slice none 0 0] 63)).alloc (.cells cs 75)) a n 6 (entsC es)) := HR1.out.keep nV
  have K1 := hid_keep H1 nV
  have K2 := hid_keep H2 nV
  have A1 := Below.step n1 nV (Nat.le_refl _)
  clear hr hnil hsp hcs
  go_enter Try.func105, Try.ntmps105
  go_wp2_with (refine wpList_copy_six rfl (.tmp 8) (.tmp 10) 61 61 rfl 75 Try.underlying61 Try.sizeEnt (w.heap.size + 1 + 1) n _ a _ rfl rfl HNi.out HSp.out cs 75 HG.out (entsC es) HRv.out hcsz (entsC_one es) ?_; intro v3 h3 n3; have k1 := three_cells ((n3.block w.heap.size (by omega)).trans K1.out); have k2 := three_cells ((n3.block (w.heap.size + 1) (by omega)).trans K2.out); obtain ⟨⟨q0, q1, q2⟩, _, _, _⟩ := k1; obtain ⟨⟨j0, j1, j2⟩, i0, i1, i2⟩ := k2; have HG3 : Hid _ := h3; clear h3)
  have A3 : Below w.heap.size w v3 := A1.trans (n3.mono (by omega))
  have hsz3 : w.heap.size + 1 + 1 < v3.heap.size := (Array.getElem?_eq_some_iff.1 HG3.out).1
  have O3 : v3.ownsRow (w.heap.size + 1 + 1) 75 6 (.slice (some ⟨w.heap.size + 1 + 1, 0, none⟩) n n) n (entsC es) :=
    ⟨by rw [entsC_len, hn], .inr ⟨_, n, (entsC es).toArray, rfl, Nat.le_refl _, HG3.out, Nat.le_refl _, by unfold maxLen; omega, by simp [entsC_len, hn], by rw [List.take_of_length_le (by simp [entsC_len, hn])]⟩⟩
  refine bodyPost_ret (v := .agg #[.int .i64 sets, .int .i64 ways, .slice (some ⟨w.heap.size + 1 + 1, 0, none⟩) n n]) (by simp [results, Try.results105, go_sem, j0, j1, j2]) rfl ⟨⟨_, rfl, _, n, by rw [hn], ?_⟩, bel3 A3 (by omega) _ _ _⟩
  rw [hn]
  exact own_low (own_gb O3 (gb3 v3 (w.heap.size + 1) _ _ _) (by omega)) (by omega)

end Go.Proofs.Ythekickjjaleaab
