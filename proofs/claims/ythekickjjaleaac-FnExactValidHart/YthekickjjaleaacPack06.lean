import Derived.Test.YthekickjjaleaacPack05
import Derived.Deep.DeepCutAuto
import Derived.StillTailTactics
import Derived.Test.YthekickjjaleaacPack03
import Derived.Test.YthekickjjaleaacPack04
import Derived.Test.YthekickjjaleaacPack02
import Derived.Deep.RegionLaw
/- The laws' marks over entries and caches: markEntryS, heldEntryS, markTlb, heldTlb. -/
namespace Go.Proofs.Ythekickjjaleaac
open Go.RowKit
set_option linter.unusedVariables false
attribute [local go_sem ↓] Go.wp_at_zero Go.wp_at_succ

/-- The value of cell t of entries that were marked from k0 on. -/
def mkE (k0 : Int) (t : Nat) : Value := match t % 6 with
  | 0 => .bool ((k0 + t) % 3 == 0)
  | 1 => .int .i64 (k0 + t)
  | 4 => .bool ((k0 + t) % 3 == 0)
  | _ => .int .u64 (k0 + t)
def mkEs (k0 : Int) (m : Nat) : List Value := (List.range m).map (mkE k0)

theorem mkE_at (k0 : Int) (m t : Nat) (h : t < m) : (mkEs k0 m)[t]? = some (mkE k0 t) := by
  simp [mkEs, h]

theorem mkE0 (k0 : Int) (j : Nat) : mkE k0 (j * 6) = (.bool ((k0 + j * 6) % 3 == 0)) := by
  unfold mkE
  rw [show (j * 6) % 6 = 0 by omega]
  simp only
  push_cast
  congr 1 <;> (first | (congr 2; omega) | omega)
theorem mkE1 (k0 : Int) (j : Nat) : mkE k0 (j * 6 + 1) = (.int .i64 (k0 + j * 6 + 1)) := by
  unfold mkE
  rw [show (j * 6 + 1) % 6 = 1 by omega]
  simp only
  push_cast
  congr 1 <;> (first | (congr 2; omega) | omega)
theorem mkE2 (k0 : Int) (j : Nat) : mkE k0 (j * 6 + 2) = (.int .u64 (k0 + j * 6 + 1 + 1)) := by
  unfold mkE
  rw [show (j * 6 + 2) % 6 = 2 by omega]
  simp only
  push_cast
  congr 1 <;> (first | (congr 2; omega) | omega)
theorem mkE3 (k0 : Int) (j : Nat) : mkE k0 (j * 6 + 3) = (.int .u64 (k0 + j * 6 + 1 + 1 + 1)) := by
  unfold mkE
  rw [show (j * 6 + 3) % 6 = 3 by omega]
  simp only
  push_cast
  congr 1 <;> (first | (congr 2; omega) | omega)
theorem mkE4 (k0 : Int) (j : Nat) : mkE k0 (j * 6 + 4) = (.bool ((k0 + j * 6 + 1 + 1 + 1 + 1) % 3 == 0)) := by
  unfold mkE
  rw [show (j * 6 + 4) % 6 = 4 by omega]
  simp only
  push_cast
  congr 1 <;> (first | (congr 2; omega) | omega)
theorem mkE5 (k0 : Int) (j : Nat) : mkE k0 (j * 6 + 5) = (.int .u64 (k0 + j * 6 + 1 + 1 + 1 + 1 + 1)) := by
  unfold mkE
  rw [show (j * 6 + 5) % 6 = 5 by omega]
  simp only
  push_cast
  congr 1 <;> (first | (congr 2; omega) | omega)

theorem mkE_step (k0 : Int) (j m : Nat) (ys : List Value) (hy : ys.length = m) (hi : j * 6 + 5 < m) (h : ∀ t, t < j * 6 → ys[t]? = some (mkE k0 t)) :
    ∀ t, t < (j + 1) * 6 → ((((((ys.set (j * 6) (.bool ((k0 + j * 6) % 3 == 0))).set (j * 6 + 1) (.int .i64 (k0 + j * 6 + 1))).set (j * 6 + 2) (.int .u64 (k0 + j * 6 + 1 + 1))).set (j * 6 + 3) (.int .u64 (k0 + j * 6 + 1 + 1 + 1))).set (j * 6 + 4) (.bool ((k0 + j * 6 + 1 + 1 + 1 + 1) % 3 == 0))).set (j * 6 + 5) (.int .u64 (k0 + j * 6 + 1 + 1 + 1 + 1 + 1)))[t]? = some (mkE k0 t) := by
  intro t ht
  by_cases h0 : t < j * 6
  · rw [List.getElem?_set_ne (by omega), List.getElem?_set_ne (by omega), List.getElem?_set_ne (by omega), List.getElem?_set_ne (by omega), List.getElem?_set_ne (by omega), List.getElem?_set_ne (by omega)]
    exact h t h0
  · rcases (show t = j * 6 ∨ t = j * 6 + 1 ∨ t = j * 6 + 2 ∨ t = j * 6 + 3 ∨ t = j * 6 + 4 ∨ t = j * 6 + 5 by omega) with rfl | rfl | rfl | rfl | rfl | rfl
    · rw [List.getElem?_set_ne (by omega), List.getElem?_set_ne (by omega), List.getElem?_set_ne (by omega), List.getElem?_set_ne (by omega), List.getElem?_set_ne (by omega), List.getElem?_set_self (by omega), mkE0]
    · rw [List.getElem?_set_ne (by omega), List.getElem?_set_ne (by omega), List.getElem?_set_ne (by omega), List.getElem?_set_ne (by omega), List.getElem?_set_self (by simp; omega), mkE1]
    · rw [List.getElem?_set_ne (by omega), List.getElem?_set_ne (by omega), List.getElem?_set_ne (by omega), List.getElem?_set_self (by simp; omega), mkE2]
    · rw [List.getElem?_set_ne (by omega), List.getElem?_set_ne (by omega), List.getElem?_set_self (by simp; omega), mkE3]
    · rw [List.getElem?_set_ne (by omega), List.getElem?_set_self (by simp; omega), mkE4]
    · rw [List.getElem?_set_self (by simp; omega), mkE5]

set_option maxRecDepth 20000 in
set_option maxHeartbeats 1600000 in
theorem markEntryS_any (base g n cap : Nat) (cs : List Value) (k0 : Int) (w : World) (h : w.ownsRow base 91 6 (.slice (some ⟨g, 0, none⟩) n cap) n cs) (hl : n ≤ 1048576) (hk0 : 0 ≤ k0) (hk1 : k0 ≤ 1073741824) :
    Calls Try.prog 75 #[.slice (some ⟨g, 0, none⟩) n cap, .int .i64 k0] w fun e w' =>
      e = .returned (.int .i64 (k0 + n * 6)) ∧ w'.ownsRow base 91 6 (.slice (some ⟨g, 0, none⟩) n cap) n (mkEs k0 (n * 6)) ∧ w.grownBy w' (some g) := by
  have HI : Hid _ := h
  clear h
  go_enter Try.func75, Try.ntmps75
  go_wp2_with fail
  go_loopw [1, 5] (fun kk i wr => ∃ (j : Nat) (ys : List Value), j ≤ n ∧ kk = .int .i64 (k0 + j * 6) ∧ i = .int .i64 j ∧ (∀ t, t < j * 6 → ys[t]? = some (mkE k0 t)) ∧ wr.ownsRow base 91 6 (.slice (some ⟨g, 0, none⟩) n cap) n ys ∧ w.grownBy wr (some g)) (fun _ i _ => n - (intOf i).toNat)
  case atStart => exact ⟨0, cs, Nat.zero_le _, by simp, rfl, fun t ht => absurd ht (by omega), HI.out, gb_refl _ _⟩
  case round =>
    clear HI
    obtain ⟨j, ys, hj, rfl, rfl, hyz, hb, hn⟩ := hrel
    have hy := hb.1
    by_cases hlt : j < n
    · have y0 := own_cell hb (j * 6) _ (List.getElem?_eq_getElem (by omega))
      have y1 := own_cell hb (j * 6 + 1) _ (List.getElem?_eq_getElem (by omega))
      have y2 := own_cell hb (j * 6 + 2) _ (List.getElem?_eq_getElem (by omega))
      have y3 := own_cell hb (j * 6 + 3) _ (List.getElem?_eq_getElem (by omega))
      have y4 := own_cell hb (j * 6 + 4) _ (List.getElem?_eq_getElem (by omega))
      have y5 := own_cell hb (j * 6 + 5) _ (List.getElem?_eq_getElem (by omega))
      generalize ys[j * 6]'_ = z0 at y0
      generalize ys[j * 6 + 1]'_ = z1 at y1
      generalize ys[j * 6 + 2]'_ = z2 at y2
      generalize ys[j * 6 + 3]'_ = z3 at y3
      generalize ys[j * 6 + 4]'_ = z4 at y4
      generalize ys[j * 6 + 5]'_ = z5 at y5
      have r0 := own_free hb (j * 6)
      have r1 := own_free hb (j * 6 + 1)
      have r2 := own_free hb (j * 6 + 2)
      have r3 := own_free hb (j * 6 + 3)
      have r4 := own_free hb (j * 6 + 4)
      have r5 := own_free hb (j * 6 + 5)
      have HZ : Hid (∀ t, t < j * 6 → ys[t]? = some (mkE k0 t)) := hyz
      have HB : Hid (wr.ownsRow base 91 6 (.slice (some ⟨g, 0, none⟩) n cap) n ys) := hb
      clear hyz hb
      go_wp2_with fail
      go_roundw
      case rel => exact ⟨j + 1, _, by omega, by go_num, by go_num, mkE_step k0 j (n * 6) ys hy (by omega) HZ.out, (own_store (own_store (own_store (own_store (own_store (own_store HB.out _ _) _ _) _ _) _ _) _ _) _ _), (gb_set (gb_set (gb_set (gb_set (gb_set (gb_set hn _ _) _ _) _ _) _ _) _ _) _ _)⟩
      case measure => simp [intOf]; omega
    · have hyy : ys = mkEs k0 (n * 6) := by
        apply List.ext_getElem?
        intro t
        by_cases ht : t < n * 6
        · rw [mkE_at k0 _ t ht]; exact hyz t (by omega)
        · rw [List.getElem?_eq_none (by omega), List.getElem?_eq_none (by simp [mkEs]; omega)]
      subst hyy
      have hjl : j = n := by omega
      subst hjl
      have HB : Hid _ := hb
      clear hyz hb hy
      go_wp2_with fail
      go_ret
      exact ⟨rfl, HB.out, hn⟩

set_option maxRecDepth 20000 in
set_option maxHeartbeats 1600000 in
theorem heldEntryS_any (base g n cap : Nat) (k0 : Int) (w : World) (h : w.ownsRow base 91 6 (.slice (some ⟨g, 0, none⟩) n cap) n (mkEs k0 (n * 6))) (hl : n ≤ 1048576) (hk0 : 0 ≤ k0) (hk1 : k0 ≤ 1073741824) :
    Calls Try.prog 76 #[.slice (some ⟨g, 0, none⟩) n cap, .int .i64 k0] w fun e w' =>
      e = .returned (.int .i64 (k0 + n * 6)) ∧ Below w.heap.size w w' := by
  have hg := (own_at h).2.2
  simp only at hg
  go_enter Try.func76, Try.ntmps76
  go_wp2_with fail
  go_loopw [1, 5] (fun kk i wr => ∃ (j : Nat), j ≤ n ∧ kk = .int .i64 (k0 + j * 6) ∧ i = .int .i64 j ∧ Below w.heap.size w wr) (fun _ i _ => n - (intOf i).toNat)
  case atStart => exact ⟨0, Nat.zero_le _, by simp, rfl, Below.refl _ _⟩
  case round =>
    obtain ⟨j, hj, rfl, rfl, hn⟩ := hrel
    by_cases hlt : j < n
    · have g0 := Below.cell2 hn (own_cell h (j * 6) _ (mkE_at k0 _ (j * 6) (by omega))) hg
      rw [mkE0] at g0
      have g1 := Below.cell2 hn (own_cell h (j * 6 + 1) _ (mkE_at k0 _ (j * 6 + 1) (by omega))) hg
      rw [mkE1] at g1
      have g2 := Below.cell2 hn (own_cell h (j * 6 + 2) _ (mkE_at k0 _ (j * 6 + 2) (by omega))) hg
      rw [mkE2] at g2
      have g3 := Below.cell2 hn (own_cell h (j * 6 + 3) _ (mkE_at k0 _ (j * 6 + 3) (by omega))) hg
      rw [mkE3] at g3
      have g4 := Below.cell2 hn (own_cell h (j * 6 + 4) _ (mkE_at k0 _ (j * 6 + 4) (by omega))) hg
      rw [mkE4] at g4
      have g5 := Below.cell2 hn (own_cell h (j * 6 + 5) _ (mkE_at k0 _ (j * 6 + 5) (by omega))) hg
      rw [mkE5] at g5
      clear h
      go_wp2_with fail
      go_roundw
      case rel => exact ⟨j + 1, by omega, by go_num, by go_num, hn⟩
      case measure => simp [intOf]; omega
    · have hjl : j = n := by omega
      subst hjl
      clear h
      go_wp2_with fail
      go_ret
      exact ⟨rfl, hn⟩

theorem markEntryS_nil (a : Option Addr) (cap : Nat) (k0 : Int) (w : World) :
    Calls Try.prog 75 #[.slice a 0 cap, .int .i64 k0] w fun e w' => e = .returned (.int .i64 k0) ∧ w' = w := by
  go_enter Try.func75, Try.ntmps75
  go_wp2_with fail
  go_loop [1, 5] (fun kk i => kk = .int .i64 k0 ∧ i = .int .i64 0) (fun _ i => 0)
  case atStart => exact ⟨rfl, rfl⟩
  case round =>
    obtain ⟨rfl, rfl⟩ := hrel
    go_wp2_with fail
    go_ret
    exact ⟨rfl, rfl⟩

theorem heldEntryS_nil (a : Option Addr) (cap : Nat) (k0 : Int) (w : World) :
    Calls Try.prog 76 #[.slice a 0 cap, .int .i64 k0] w fun e w' => e = .returned (.int .i64 k0) ∧ w' = w := by
  go_enter Try.func76, Try.ntmps76
  go_wp2_with fail
  go_loop [1, 5] (fun kk i => kk = .int .i64 k0 ∧ i = .int .i64 0) (fun _ i => 0)
  case atStart => exact ⟨rfl, rfl⟩
  case round =>
    obtain ⟨rfl, rfl⟩ := hrel
    go_wp2_with fail
    go_ret
    exact ⟨rfl, rfl⟩

theorem markTlb_nil (sets ways : Int) (a : Option Addr) (cap : Nat) (k0 : Int) (w : World) :
    Calls Try.prog 64 #[.agg #[.int .i64 sets, .int .i64 ways, .slice a 0 cap], .int .i64 k0] w fun e w' => e = .returned (.int .i64 k0) ∧ Below w.heap.size w w' := by
  have b1 := (Below.refl w.heap.size w).alloc (Nat.le_refl _) (Obj.cells #[.int .i64 sets, .int .i64 ways, .slice a 0 cap] 27)
  go_enter Try.func64, Try.ntmps64
  go_wp2_with (go_at_call 75; refine (markEntryS_nil a cap k0 _).mono ?_; rintro e w' ⟨rfl, rfl⟩)
  go_ret
  exact ⟨rfl, b1⟩

theorem markTlb_any (sets ways : Int) (base g n cap : Nat) (cs : List Value) (k0 : Int) (w : World) (h : w.ownsRow base 91 6 (.slice (some ⟨g, 0, none⟩) n cap) n cs) (hl : n ≤ 1048576) (hk0 : 0 ≤ k0) (hk1 : k0 ≤ 1073741824) :
    Calls Try.prog 64 #[.agg #[.int .i64 sets, .int .i64 ways, .slice (some ⟨g, 0, none⟩) n cap], .int .i64 k0] w fun e w' =>
      e = .returned (.int .i64 (k0 + n * 6)) ∧ w'.ownsRow base 91 6 (.slice (some ⟨g, 0, none⟩) n cap) n (mkEs k0 (n * 6)) ∧ w.grownBy w' (some g) := by
  have m1 := World.grownBy_alloc w (Obj.cells #[.int .i64 sets, .int .i64 ways, .slice (some ⟨g, 0, none⟩) n cap] 27) (some g)
  have h1 : Hid ((w.alloc (Obj.cells #[.int .i64 sets, .int .i64 ways, .slice (some ⟨g, 0, none⟩) n cap] 27)).ownsRow base 91 6 (.slice (some ⟨g, 0, none⟩) n cap) n cs) := own_below h ((Below.refl w.heap.size w).alloc (Nat.le_refl _) _)
  clear h
  go_enter Try.func64, Try.ntmps64
  go_wp2_with fail
  refine (markEntryS_any base g n cap cs k0 _ h1.out hl hk0 hk1).mono ?_
  rintro e v2 ⟨rfl, c2, m2⟩
  have C2 : Hid _ := c2
  have m12 := gb_trans m1 m2
  clear m1 m2 h1 c2
  go_wp2_with fail
  go_ret
  exact ⟨rfl, C2.out, m12⟩

theorem heldTlb_nil (sets ways : Int) (a : Option Addr) (cap : Nat) (k0 : Int) (w : World) (hk0 : 0 ≤ k0) :
    Calls Try.prog 65 #[.agg #[.int .i64 sets, .int .i64 ways, .slice a 0 cap], .int .i64 k0] w fun e w' => e = .returned (.int .i64 k0) ∧ Below w.heap.size w w' := by
  have b1 := (Below.refl w.heap.size w).alloc (Nat.le_refl _) (Obj.cells #[.int .i64 sets, .int .i64 ways, .slice a 0 cap] 27)
  have hk : decide (k0 < 0) = false := by simp; omega
  go_enter Try.func65, Try.ntmps65
  go_wp2_with (go_at_call 76; refine (heldEntryS_nil a cap k0 _).mono ?_; rintro e w' ⟨rfl, rfl⟩)
  go_ret
  exact ⟨rfl, b1⟩

theorem heldTlb_any (sets ways : Int) (base g n cap : Nat) (k0 : Int) (w : World) (h : w.ownsRow base 91 6 (.slice (some ⟨g, 0, none⟩) n cap) n (mkEs k0 (n * 6))) (hl : n ≤ 1048576) (hk0 : 0 ≤ k0) (hk1 : k0 ≤ 1073741824) :
    Calls Try.prog 65 #[.agg #[.int .i64 sets, .int .i64 ways, .slice (some ⟨g, 0, none⟩) n cap], .int .i64 k0] w fun e w' => e = .returned (.int .i64 (k0 + n * 6)) ∧ Below w.heap.size w w' := by
  have b1 := (Below.refl w.heap.size w).alloc (Nat.le_refl _) (Obj.cells #[.int .i64 sets, .int .i64 ways, .slice (some ⟨g, 0, none⟩) n cap] 27)
  have h1 : Hid ((w.alloc (Obj.cells #[.int .i64 sets, .int .i64 ways, .slice (some ⟨g, 0, none⟩) n cap] 27)).ownsRow base 91 6 (.slice (some ⟨g, 0, none⟩) n cap) n (mkEs k0 (n * 6))) := own_below h b1
  have hk : decide (k0 + n * 6 < 0) = false := by simp; omega
  clear h
  go_enter Try.func65, Try.ntmps65
  go_wp2_with fail
  refine (heldEntryS_any base g n cap k0 _ h1.out hl hk0 hk1).mono ?_
  rintro e v2 ⟨rfl, n2⟩
  have b2 := Below.step b1 n2 (Nat.le_refl _)
  clear b1 n2 h1
  go_wp2_with fail
  go_ret
  exact ⟨rfl, b2⟩

end Go.Proofs.Ythekickjjaleaac

/- The specification's Insert. -/
namespace Go.Proofs.Ythekickjjaleaac
open Go.RowKit
set_option linter.unusedVariables false
attribute [local go_sem ↓] Go.wp_at_zero Go.wp_at_succ

theorem TlbOwn.drew {base : Nat} {w : World} {v : Value} {t : TlbM} (h : TlbOwn base w v t) : TlbOwn base w.drew v t := h

end Go.Proofs.Ythekickjjaleaac

/- The specification's l4GoodCaches, l4Entry, l4Caches. -/
namespace Go.Proofs.Ythekickjjaleaac
open Go.RowKit
set_option linter.unusedVariables false
attribute [local go_sem ↓] Go.wp_at_zero Go.wp_at_succ

theorem nine_cells {v : World} {p : Nat} {T : TypeId} {a b c d e f g h i : Value} (hh : v.heap[p]? = some (.cells #[a, b, c, d, e, f, g, h, i] T (0, 0))) :
    v.cell? ⟨p, 0, none⟩ = some a ∧ v.cell? ⟨p, 1, none⟩ = some b ∧ v.cell? ⟨p, 2, none⟩ = some c ∧ v.cell? ⟨p, 3, none⟩ = some d ∧ v.cell? ⟨p, 4, none⟩ = some e ∧ v.cell? ⟨p, 5, none⟩ = some f ∧ v.cell? ⟨p, 6, none⟩ = some g ∧ v.cell? ⟨p, 7, none⟩ = some h ∧ v.cell? ⟨p, 8, none⟩ = some i := by
  simp [World.cell?, hh]

theorem bel6 {B : Nat} {a w : World} {g : Nat} (h : Below B a w) (hg : B ≤ g) (x y z u v t : Value) : Below B a ((((((w.setCell ⟨g, 0, none⟩ x).setCell ⟨g, 1, none⟩ y).setCell ⟨g, 2, none⟩ z).setCell ⟨g, 3, none⟩ u).setCell ⟨g, 4, none⟩ v).setCell ⟨g, 5, none⟩ t) :=
  (((bel3 h hg x y z).setCell (p := ⟨g, 3, none⟩) hg u).setCell (p := ⟨g, 4, none⟩) hg v).setCell (p := ⟨g, 5, none⟩) hg t

theorem bel9 {B : Nat} {a w : World} {g : Nat} (h : Below B a w) (hg : B ≤ g) (x y z u v t p q r : Value) : Below B a (((((((((w.setCell ⟨g, 0, none⟩ x).setCell ⟨g, 1, none⟩ y).setCell ⟨g, 2, none⟩ z).setCell ⟨g, 3, none⟩ u).setCell ⟨g, 4, none⟩ v).setCell ⟨g, 5, none⟩ t).setCell ⟨g, 6, none⟩ p).setCell ⟨g, 7, none⟩ q).setCell ⟨g, 8, none⟩ r) :=
  (((bel6 h hg x y z u v t).setCell (p := ⟨g, 6, none⟩) hg p).setCell (p := ⟨g, 7, none⟩) hg q).setCell (p := ⟨g, 8, none⟩) hg r

theorem gb9 (w : World) (g : Nat) (x y z u v t p q r : Value) : w.grownBy (((((((((w.setCell ⟨g, 0, none⟩ x).setCell ⟨g, 1, none⟩ y).setCell ⟨g, 2, none⟩ z).setCell ⟨g, 3, none⟩ u).setCell ⟨g, 4, none⟩ v).setCell ⟨g, 5, none⟩ t).setCell ⟨g, 6, none⟩ p).setCell ⟨g, 7, none⟩ q).setCell ⟨g, 8, none⟩ r) (some g) :=
  gb_set (gb_set (gb_set (gb_set (gb_set (gb_set (gb_set (gb_set (gb_set (gb_refl w (some g)) 0 x) 1 y) 2 z) 3 u) 4 v) 5 t) 6 p) 7 q) 8 r

theorem nine_free {v : World} {p : Nat} {T : TypeId} {cs : Array Value} (hh : v.heap[p]? = some (.cells cs T (0, 0))) (i : Nat) : v.frozen? ⟨p, i, none⟩ = false := by
  simp [World.frozen?, hh]

/-- Three caches as a value in memory. -/
def KAt (w : World) (v : Value) (k : KM) : Prop :=
  ∃ a1 c1 a2 c2 a3 c3, v = .agg #[.int .i64 k.i.sets, .int .i64 k.i.ways, .slice a1 k.i.es.length c1, .int .i64 k.d.sets, .int .i64 k.d.ways, .slice a2 k.d.es.length c2, .int .i64 k.p.sets, .int .i64 k.p.ways, .slice a3 k.p.es.length c3] ∧
    TlbAt w (.agg #[.int .i64 k.i.sets, .int .i64 k.i.ways, .slice a1 k.i.es.length c1]) k.i ∧ TlbAt w (.agg #[.int .i64 k.d.sets, .int .i64 k.d.ways, .slice a2 k.d.es.length c2]) k.d ∧ TlbAt w (.agg #[.int .i64 k.p.sets, .int .i64 k.p.ways, .slice a3 k.p.es.length c3]) k.p

theorem KAt.keep {w w' : World} {v : Value} {k : KM} (h : KAt w v k) (hb : Below w.heap.size w w') : KAt w' v k := by
  obtain ⟨a1, c1, a2, c2, a3, c3, rfl, h1, h2, h3⟩ := h
  exact ⟨a1, c1, a2, c2, a3, c3, rfl, h1.keep hb, h2.keep hb, h3.keep hb⟩

set_option maxHeartbeats 800000 in
theorem l4GoodCaches_any (v : Value) (k : KM) (w : World) (h : KAt w v k) :
    Calls Try.prog 38 #[v] w fun e w' => e = .returned (.bool (goodKM k)) ∧ Below w.heap.size w w' := by
  obtain ⟨a1, c1, a2, c2, a3, c3, rfl, t1, t2, t3⟩ := h
  obtain ⟨q1, hq1⟩ : ∃ q, validM k.i false = q := ⟨_, rfl⟩
  obtain ⟨q2, hq2⟩ : ∃ q, validM k.d false = q := ⟨_, rfl⟩
  obtain ⟨q3, hq3⟩ : ∃ q, validM k.p true = q := ⟨_, rfl⟩
  unfold goodKM
  rw [hq1, hq2, hq3]
  have n1 := (Below.refl w.heap.size w).alloc (Nat.le_refl _) (Obj.cells #[.int .i64 k.i.sets, .int .i64 k.i.ways, .slice a1 k.i.es.length c1, .int .i64 k.d.sets, .int .i64 k.d.ways, .slice a2 k.d.es.length c2, .int .i64 k.p.sets, .int .i64 k.p.ways, .slice a3 k.p.es.length c3] 29)
  have HV1 : Hid (∀ v, Below w.heap.size w v → Calls Try.prog 58 #[.agg #[.int .i64 k.i.sets, .int .i64 k.i.ways, .slice a1 k.i.es.length c1], .bool false] v fun e w' => e = .returned (.bool q1) ∧ Below v.heap.size v w') := fun v hv => by
    have := specValid_any _ _ false v (t1.keep hv)
    rw [hq1] at this
    exact this
  have HV2 : Hid (∀ v, Below w.heap.size w v → Calls Try.prog 58 #[.agg #[.int .i64 k.d.sets, .int .i64 k.d.ways, .slice a2 k.d.es.length c2], .bool false] v fun e w' => e = .returned (.bool q2) ∧ Below v.heap.size v w') := fun v hv => by
    have := specValid_any _ _ false v (t2.keep hv)
    rw [hq2] at this
    exact this
  have HV3 : Hid (∀ v, Below w.heap.size w v → Calls Try.prog 58 #[.agg #[.int .i64 k.p.sets, .int .i64 k.p.ways, .slice a3 k.p.es.length c3], .bool true] v fun e w' => e = .returned (.bool q3) ∧ Below v.heap.size v w') := fun v hv => by
    have := specValid_any _ _ true v (t3.keep hv)
    rw [hq3] at this
    exact this
  have H1 : Hid (∀ v, Below (w.heap.size + 1) (w.alloc (Obj.cells #[.int .i64 k.i.sets, .int .i64 k.i.ways, .slice a1 k.i.es.length c1, .int .i64 k.d.sets, .int .i64 k.d.ways, .slice a2 k.d.es.length c2, .int .i64 k.p.sets, .int .i64 k.p.ways, .slice a3 k.p.es.length c3] 29)) v → v.heap[w.heap.size]? = some (.cells #[.int .i64 k.i.sets, .int .i64 k.i.ways, .slice a1 k.i.es.length c1, .int .i64 k.d.sets, .int .i64 k.d.ways, .slice a2 k.d.es.length c2, .int .i64 k.p.sets, .int .i64 k.p.ways, .slice a3 k.p.es.length c3] 29 (0, 0))) :=
    fun v hv => (hv.block w.heap.size (by omega)).trans (heap_alloc_new w _)
  clear t1 t2 t3 hq1 hq2 hq3
  generalize k.i.sets = s1 at *
  generalize k.i.ways = w1 at *
  generalize k.i.es.length = m1 at *
  generalize k.d.sets = s2 at *
  generalize k.d.ways = w2 at *
  generalize k.d.es.length = m2 at *
  generalize k.p.sets = s3 at *
  generalize k.p.ways = w3 at *
  generalize k.p.es.length = m3 at *
  cases q1
  · go_enter Try.func38, Try.ntmps38
    go_wp2_with fail
    refine (HV1.out _ n1).mono ?_
    rintro e v2 ⟨rfl, n2⟩
    have n12 := Below.step n1 n2 (Nat.le_refl _)
    go_wp2_with fail
    go_ret
    exact ⟨rfl, n12⟩
  · go_enter Try.func38, Try.ntmps38
    go_wp2_with fail
    refine (HV1.out _ n1).mono ?_
    rintro e v2 ⟨rfl, n2⟩
    have n12 := Below.step n1 n2 (Nat.le_refl _)
    have K2 := nine_cells (H1.out v2 (n2.mono (by simp)))
    obtain ⟨x0, x1, x2, x3, x4, x5, x6, x7, x8⟩ := K2
    cases q2
    · go_wp2_with fail
      refine (HV2.out _ n12).mono ?_
      rintro e v3 ⟨rfl, n3⟩
      have n13 := Below.step n12 n3 (Nat.le_refl _)
      go_wp2_with fail
      go_ret
      exact ⟨rfl, n13⟩
    · go_wp2_with fail
      refine (HV2.out _ n12).mono ?_
      rintro e v3 ⟨rfl, n3⟩
      have n13 := Below.step n12 n3 (Nat.le_refl _)
      have n23 := Below.step n2 n3 (Nat.le_refl _)
      clear x0 x1 x2 x3 x4 x5 x6 x7 x8
      have K3 := nine_cells (H1.out v3 (n23.mono (by simp)))
      obtain ⟨x0, x1, x2, x3, x4, x5, x6, x7, x8⟩ := K3
      go_wp2_with fail
      refine (HV3.out _ n13).mono ?_
      rintro e v4 ⟨rfl, n4⟩
      have n14 := Below.step n13 n4 (Nat.le_refl _)
      go_wp2_with fail
      go_ret
      exact ⟨by simp, n14⟩

/-- Three caches, each in a row of one's own. -/
def KOwn (base : Nat) (w : World) (v : Value) (k : KM) : Prop :=
  ∃ g1 c1 g2 c2 g3 c3, v = .agg #[.int .i64 k.i.sets, .int .i64 k.i.ways, .slice (some ⟨g1, 0, none⟩) k.i.es.length c1, .int .i64 k.d.sets, .int .i64 k.d.ways, .slice (some ⟨g2, 0, none⟩) k.d.es.length c2, .int .i64 k.p.sets, .int .i64 k.p.ways, .slice (some ⟨g3, 0, none⟩) k.p.es.length c3] ∧
    w.ownsRow base 91 6 (.slice (some ⟨g1, 0, none⟩) k.i.es.length c1) k.i.es.length (entsC k.i.es) ∧ w.ownsRow base 91 6 (.slice (some ⟨g2, 0, none⟩) k.d.es.length c2) k.d.es.length (entsC k.d.es) ∧ w.ownsRow base 91 6 (.slice (some ⟨g3, 0, none⟩) k.p.es.length c3) k.p.es.length (entsC k.p.es)

theorem KOwn.at {base : Nat} {w : World} {v : Value} {k : KM} (h : KOwn base w v k) (h1 : tlbOk k.i) (h2 : tlbOk k.d) (h3 : tlbOk k.p) : KAt w v k := by
  obtain ⟨g1, c1, g2, c2, g3, c3, rfl, o1, o2, o3⟩ := h
  exact ⟨some ⟨g1, 0, none⟩, c1, some ⟨g2, 0, none⟩, c2, some ⟨g3, 0, none⟩, c3, rfl, TlbOwn.at ⟨g1, c1, rfl, o1⟩ h1, TlbOwn.at ⟨g2, c2, rfl, o2⟩ h2, TlbOwn.at ⟨g3, c3, rfl, o3⟩ h3⟩

end Go.Proofs.Ythekickjjaleaac

/- Plain mathematics of chapter 3: the codes of walks. -/
namespace Go.Proofs.Ythekickjjaleaac
set_option linter.unusedVariables false

theorem fromM_code (zs : List Int) (va : Int) : ∀ (l : Nat) (n : Int), (fromM zs va l n).1 = 1 ∨ (fromM zs va l n).1 = 2 ∨ (fromM zs va l n).1 = 3
  | 0, n => by
    unfold fromM
    split
    · simp
    · split
      · simp
      · split <;> simp
  | l + 1, n => by
    unfold fromM
    split
    · simp
    · split
      · simp
      · split
        · simp
        · exact fromM_code zs va l _

theorem walkM_code (zs : List Int) (root va : Int) : (walkM zs root va).1 = 1 ∨ (walkM zs root va).1 = 2 ∨ (walkM zs root va).1 = 3 := by
  unfold walkM
  split
  · simp
  · exact fromM_code zs va 2 _

end Go.Proofs.Ythekickjjaleaac

/- Plain mathematics of chapter 4: what the translation with caches promises (P6, P7, P8). -/
namespace Go.Proofs.Ythekickjjaleaac
set_option linter.unusedVariables false

theorem tagM_bd (va level : Int) (h0 : 0 ≤ level) (h2 : level ≤ 2) : 0 ≤ tagM va level ∧ tagM va level < pow9 level := by
  unfold tagM pow9
  rcases (show level = 0 ∨ level = 1 ∨ level = 2 by omega) with rfl | rfl | rfl <;> simp <;> omega

theorem kindM_level {pte level : Int} (h : kindM pte level ≠ 0) : 0 ≤ level ∧ level ≤ 2 := by
  unfold kindM at h
  split at h
  · exact absurd rfl h
  · omega

theorem entM_good (level va satp pte : Int) (p : Bool) (hk : kindM pte level = wantM p) : goodEntM (entM level va satp pte) p = true := by
  have hl : 0 ≤ level ∧ level ≤ 2 := kindM_level (by rw [hk]; cases p <;> decide)
  have ht := tagM_bd va level hl.1 hl.2
  have ha : asidM satp ≤ 65535 := by unfold asidM; omega
  simp [goodEntM, entM, hl.1, hl.2, ht.2, ha, hk]

theorem entM_tag (level va satp pte : Int) (p : Bool) (hk : kindM pte level = wantM p) : 0 ≤ (entM level va satp pte).tag := by
  have hl : 0 ≤ level ∧ level ≤ 2 := kindM_level (by rw [hk]; cases p <;> decide)
  exact (tagM_bd va level hl.1 hl.2).1

theorem ptrs_valid (va satp pick : Int) : ∀ (rs : List RecM) (p : TlbM), validM p true = true → validM (ptrsM va satp pick rs p) true = true
  | [], p, h => h
  | r :: rs, p, h => by
    rw [ptrsM]
    refine ptrs_valid va satp pick rs _ ?_
    split
    · rename_i hk
      exact insert_valid p _ pick true h (entM_good _ _ _ _ true hk) (entM_tag _ _ _ _ true hk)
    · exact h

/-- A leaf that a walk answers is a leaf. -/
theorem fromM_kind (zs : List Int) (va : Int) : ∀ (l : Nat) (n : Int), (fromM zs va l n).1 = 1 → kindM (fromM zs va l n).2.2.1 (fromM zs va l n).2.1 = 2
  | 0, n => by
    intro h
    unfold fromM at h ⊢
    split at h
    · simp at h
    · rename_i h1
      rw [if_neg h1]
      split at h
      · simp at h
      · rename_i h2
        rw [if_neg h2]
        split at h
        · rename_i h3
          rw [if_pos h3]
          exact h3
        · simp at h
  | l + 1, n => by
    intro h
    unfold fromM at h ⊢
    split at h
    · simp at h
    · rename_i h1
      rw [if_neg h1]
      split at h
      · simp at h
      · rename_i h2
        rw [if_neg h2]
        split at h
        · rename_i h3
          rw [if_pos h3]
          exact h3
        · rename_i h3
          rw [if_neg h3]
          exact fromM_kind zs va l _ h

theorem walkM_kind (zs : List Int) (root va : Int) (h : (walkM zs root va).1 = 1) : kindM (walkM zs root va).2.2.1 (walkM zs root va).2.1 = 2 := by
  unfold walkM at h ⊢
  split at h
  · simp at h
  · rename_i hc
    rw [if_neg hc]
    exact fromM_kind zs va 2 _ h

theorem pageM_ne (kind : Int) : pageM kind ≠ 0 := by
  unfold pageM
  split
  · decide
  · split <;> decide

theorem accessM_ne (kind : Int) : accessM kind ≠ 0 := by
  unfold accessM
  split
  · decide
  · split <;> decide

/-- Valid caches stay valid. -/
theorem trans_good (zs : List Int) (mode : Int) (sum mxr : Bool) (satp : Int) (k : KM) (kind va pick : Int) (hk : goodKM k = true) (h1 : 0 ≤ kind ∧ kind ≤ 2) (h2 : 0 ≤ mode ∧ mode ≤ 2) (h3 : 0 ≤ pick ∧ pick ≤ 255) :
    goodKM (tlbTransM zs mode sum mxr satp k kind va pick).2 = true := by
  have hk' := hk
  simp only [goodKM, Bool.and_eq_true] at hk'
  obtain ⟨⟨gi, gd⟩, gp⟩ := hk'
  unfold tlbTransM
  rw [if_neg (by rw [hk]; simp; omega)]
  split
  · exact hk
  · split
    · exact hk
    · split
      · exact hk
      · simp only
        have gp' := ptrs_valid va satp pick (resumeM zs satp va (hitM k.p va (asidM satp))).2.2.2 k.p gp
        split
        · rename_i ha
          have hkind : kindM (resumeM zs satp va (hitM k.p va (asidM satp))).2.2.1 (resumeM zs satp va (hitM k.p va (asidM satp))).2.1 = 2 := by
            have hcode : (resumeM zs satp va (hitM k.p va (asidM satp))).1 = 1 := by
              have hc : (resumeM zs satp va (hitM k.p va (asidM satp))).1 = 1 ∨ (resumeM zs satp va (hitM k.p va (asidM satp))).1 = 2 ∨ (resumeM zs satp va (hitM k.p va (asidM satp))).1 = 3 := by
                unfold resumeM
                split
                · exact fromM_code zs va _ _
                · exact walkM_code zs satp va
              unfold answerM at ha
              rcases hc with hc | hc | hc
              · exact hc
              · rw [if_pos hc] at ha
                exact absurd ha (pageM_ne kind)
              · rw [if_neg (by rw [hc]; decide), if_pos hc] at ha
                exact absurd ha (accessM_ne kind)
            unfold resumeM at hcode ⊢
            split at hcode
            · rename_i hu
              rw [if_pos hu]
              exact fromM_kind zs va _ _ hcode
            · rename_i hu
              rw [if_neg hu]
              exact walkM_kind zs satp va hcode
          have hge := entM_good _ va satp _ false hkind
          have hgt := entM_tag _ va satp _ false hkind
          unfold putM pickM
          split
          · simp only [goodKM, Bool.and_eq_true]
            exact ⟨⟨insert_valid _ _ pick false gi hge hgt, gd⟩, gp'⟩
          · simp only [goodKM, Bool.and_eq_true]
            exact ⟨⟨gi, insert_valid _ _ pick false gd hge hgt⟩, gp'⟩
        · simp only [goodKM, Bool.and_eq_true]
          exact ⟨⟨gi, gd⟩, gp'⟩

end Go.Proofs.Ythekickjjaleaac

/- The specification's TlbTranslate. -/
namespace Go.Proofs.Ythekickjjaleaac
open Go.RowKit
set_option linter.unusedVariables false
attribute [local go_sem ↓] Go.wp_at_zero Go.wp_at_succ

/-- An answer of a translation with caches: its caches in rows of its own. -/
def TransOwn (base : Nat) (w : World) (v : Value) (r : (Int × Int) × KM) : Prop :=
  ∃ s1 s2 s3, v = .agg #[.int .i64 r.1.1, .int .u64 r.1.2, .int .i64 r.2.i.sets, .int .i64 r.2.i.ways, s1, .int .i64 r.2.d.sets, .int .i64 r.2.d.ways, s2, .int .i64 r.2.p.sets, .int .i64 r.2.p.ways, s3] ∧
    w.ownsRow base 91 6 s1 r.2.i.es.length (entsC r.2.i.es) ∧ w.ownsRow base 91 6 s2 r.2.d.es.length (entsC r.2.d.es) ∧ w.ownsRow base 91 6 s3 r.2.p.es.length (entsC r.2.p.es)

end Go.Proofs.Ythekickjjaleaac

/- The specification's TlbTranslate, behind the guards. -/
namespace Go.Proofs.Ythekickjjaleaac
open Go.RowKit
set_option linter.unusedVariables false
attribute [local go_sem ↓] Go.wp_at_zero Go.wp_at_succ

theorem own_gbn {e : TypeId} {size : Nat} {w w' : World} {base n g cap r : Nat} {cs : List Value} (h : w.ownsRow base e size (.slice (some ⟨g, 0, none⟩) n cap) n cs) (hg : w.grownBy w' (some r)) (hr : g ≠ r) : w'.ownsRow base e size (.slice (some ⟨g, 0, none⟩) n cap) n cs := by
  refine h.kept hg (.inr ?_)
  simp [Value.ownBlock]
  omega

end Go.Proofs.Ythekickjjaleaac

/- Three caches of one's own, apart from each other. -/
namespace Go.Proofs.Ythekickjjaleaac
open Go.RowKit
set_option linter.unusedVariables false

/-- No block of the one is a block of the other. -/
def rowsApart (s t : Value) : Prop := ∀ g, s.ownBlock = some g → t.ownBlock ≠ some g

def KSep (base : Nat) (w : World) (v : Value) (k : KM) : Prop :=
  ∃ g1 c1 g2 c2 g3 c3, v = .agg #[.int .i64 k.i.sets, .int .i64 k.i.ways, .slice (some ⟨g1, 0, none⟩) k.i.es.length c1, .int .i64 k.d.sets, .int .i64 k.d.ways, .slice (some ⟨g2, 0, none⟩) k.d.es.length c2, .int .i64 k.p.sets, .int .i64 k.p.ways, .slice (some ⟨g3, 0, none⟩) k.p.es.length c3] ∧
    w.ownsRow base 91 6 (.slice (some ⟨g1, 0, none⟩) k.i.es.length c1) k.i.es.length (entsC k.i.es) ∧ w.ownsRow base 91 6 (.slice (some ⟨g2, 0, none⟩) k.d.es.length c2) k.d.es.length (entsC k.d.es) ∧ w.ownsRow base 91 6 (.slice (some ⟨g3, 0, none⟩) k.p.es.length c3) k.p.es.length (entsC k.p.es) ∧
    g1 ≠ g2 ∧ g1 ≠ g3 ∧ g2 ≠ g3

def TransSep (base : Nat) (w : World) (v : Value) (r : (Int × Int) × KM) : Prop :=
  ∃ s1 s2 s3, v = .agg #[.int .i64 r.1.1, .int .u64 r.1.2, .int .i64 r.2.i.sets, .int .i64 r.2.i.ways, s1, .int .i64 r.2.d.sets, .int .i64 r.2.d.ways, s2, .int .i64 r.2.p.sets, .int .i64 r.2.p.ways, s3] ∧
    w.ownsRow base 91 6 s1 r.2.i.es.length (entsC r.2.i.es) ∧ w.ownsRow base 91 6 s2 r.2.d.es.length (entsC r.2.d.es) ∧ w.ownsRow base 91 6 s3 r.2.p.es.length (entsC r.2.p.es) ∧
    rowsApart s1 s2 ∧ rowsApart s1 s3 ∧ rowsApart s2 s3

theorem TransSep.own {base : Nat} {w : World} {v : Value} {r : (Int × Int) × KM} (h : TransSep base w v r) : TransOwn base w v r := by
  obtain ⟨s1, s2, s3, h0, h1, h2, h3, _⟩ := h
  exact ⟨s1, s2, s3, h0, h1, h2, h3⟩

end Go.Proofs.Ythekickjjaleaac
