/- The laws' equality of entries and caches: eqEntry, eqEntryS, eqTlb, eqHit. -/
import Derived.Test.YthekickjjaleaabTlbTo
namespace Go.Proofs.Ythekickjjaleaab
open Go.RowKit
set_option linter.unusedVariables false
attribute [local go_sem ↓] Go.wp_at_zero Go.wp_at_succ

set_option maxHeartbeats 800000 in
theorem eqEntry_same (v : Bool) (l t a : Int) (g : Bool) (p : Int) (w : World) :
    Calls Try.prog 138 #[.agg #[.bool v, .int .i64 l, .int .u64 t, .int .u64 a, .bool g, .int .u64 p], .agg #[.bool v, .int .i64 l, .int .u64 t, .int .u64 a, .bool g, .int .u64 p]] w fun e w' => e = .returned (.bool true) ∧ Below w.heap.size w w' := by
  cases v <;> cases g
  all_goals
    go_enter Try.func138, Try.ntmps138
    go_wp2_with fail
    go_ret
    exact ⟨rfl, ((Below.refl _ _).alloc (Nat.le_refl _) _).alloc (by simp) _⟩

set_option maxHeartbeats 800000 in
theorem eqHit_same (f : Bool) (i l p : Int) (w : World) :
    Calls Try.prog 48 #[.agg #[.bool f, .int .i64 i, .int .i64 l, .int .u64 p], .agg #[.bool f, .int .i64 i, .int .i64 l, .int .u64 p]] w fun e w' => e = .returned (.bool true) ∧ Below w.heap.size w w' := by
  cases f
  all_goals
    go_enter Try.func48, Try.ntmps48
    go_wp2_with fail
    go_ret
    exact ⟨rfl, ((Below.refl _ _).alloc (Nat.le_refl _) _).alloc (by simp) _⟩

set_option maxRecDepth 20000 in
set_option maxHeartbeats 1600000 in
theorem eqEntryS_same (a b : Option Addr) (n ca cb : Nat) (es : List EntM) (w : World) (h : RowC w a n 6 (entsC es)) (h' : RowC w b n 6 (entsC es)) (hn : es.length = n) (hl : n ≤ 1048576) :
    Calls Try.prog 98 #[.slice a n ca, .slice b n cb] w fun e w' => e = .returned (.bool true) ∧ Below w.heap.size w w' := by
  have HR : Hid (RowC w a n 6 (entsC es)) := h
  have HR' : Hid (RowC w b n 6 (entsC es)) := h'
  clear h h'
  go_enter Try.func98, Try.ntmps98
  go_wp2_with fail
  go_loopw [5] (fun i wr => ∃ (k : Nat), k ≤ n ∧ i = .int .i64 k ∧ Below w.heap.size w wr) (fun i _ => n - (intOf i).toNat)
  case atStart => exact ⟨0, Nat.zero_le _, rfl, Below.refl _ _⟩
  case round =>
    obtain ⟨k, hk, rfl, hb⟩ := hrel
    by_cases hlt : k < n
    · obtain ⟨x, hx⟩ : ∃ x : EntM, es[k]? = some x := ⟨_, List.getElem?_eq_getElem (by omega)⟩
      have R1 := RowC.keep HR.out hb
      have R2 := RowC.keep HR'.out hb
      obtain ⟨b1, o1, rfl, lb1⟩ : ∃ b1 o1, a = some ⟨b1, o1, none⟩ ∧ b1 < wr.heap.size := by
        rcases R1.2 with h | ⟨b1, o1, h, h2, _⟩
        · omega
        · exact ⟨b1, o1, h, h2⟩
      obtain ⟨b2, o2, rfl, lb2⟩ : ∃ b2 o2, b = some ⟨b2, o2, none⟩ ∧ b2 < wr.heap.size := by
        rcases R2.2 with h | ⟨b2, o2, h, h2, _⟩
        · omega
        · exact ⟨b2, o2, h, h2⟩
      obtain ⟨vv, lv, tg, asd, gl, pt⟩ := x
      have C1 := fun j u hj hu => lies_cell (row_cell R1 hn k _ hx j u hj hu) lb1
      have C2 := fun j u hj hu => lies_cell (row_cell R2 hn k _ hx j u hj hu) lb2
      have g0 : ∀ u : Lies wr, u.w.cell? ⟨b1, o1 + k * 6, none⟩ = some (.bool vv) := C1 0 _ (by omega) rfl
      have g1 : ∀ u : Lies wr, u.w.cell? ⟨b1, o1 + k * 6 + 1, none⟩ = some (.int .i64 lv) := C1 1 _ (by omega) rfl
      have g2 : ∀ u : Lies wr, u.w.cell? ⟨b1, o1 + k * 6 + 2, none⟩ = some (.int .u64 tg) := C1 2 _ (by omega) rfl
      have g3 : ∀ u : Lies wr, u.w.cell? ⟨b1, o1 + k * 6 + 3, none⟩ = some (.int .u64 asd) := C1 3 _ (by omega) rfl
      have g4 : ∀ u : Lies wr, u.w.cell? ⟨b1, o1 + k * 6 + 4, none⟩ = some (.bool gl) := C1 4 _ (by omega) rfl
      have g5 : ∀ u : Lies wr, u.w.cell? ⟨b1, o1 + k * 6 + 5, none⟩ = some (.int .u64 pt) := C1 5 _ (by omega) rfl
      have f0 : ∀ u : Lies wr, u.w.cell? ⟨b2, o2 + k * 6, none⟩ = some (.bool vv) := C2 0 _ (by omega) rfl
      have f1 : ∀ u : Lies wr, u.w.cell? ⟨b2, o2 + k * 6 + 1, none⟩ = some (.int .i64 lv) := C2 1 _ (by omega) rfl
      have f2 : ∀ u : Lies wr, u.w.cell? ⟨b2, o2 + k * 6 + 2, none⟩ = some (.int .u64 tg) := C2 2 _ (by omega) rfl
      have f3 : ∀ u : Lies wr, u.w.cell? ⟨b2, o2 + k * 6 + 3, none⟩ = some (.int .u64 asd) := C2 3 _ (by omega) rfl
      have f4 : ∀ u : Lies wr, u.w.cell? ⟨b2, o2 + k * 6 + 4, none⟩ = some (.bool gl) := C2 4 _ (by omega) rfl
      have f5 : ∀ u : Lies wr, u.w.cell? ⟨b2, o2 + k * 6 + 5, none⟩ = some (.int .u64 pt) := C2 5 _ (by omega) rfl
      have ne := lies_some wr
      clear C1 C2 R1 R2 hx
      go_wp2_with fail
      refine wp_region_lies (by kernel_rfl) (by kernel_rfl) ?_
      repeat (go_big_quiet_step ((go_at_call 138; exact lies_quiet _ (eqEntry_same _ _ _ _ _ _ _))))
      refine wpQuiet_nil ?_
      rintro _ ⟨u, rfl⟩
      have hb2 := Below.step hb u.h (Nat.le_refl _)
      generalize u.w = v2 at hb2 ⊢
      clear g0 g1 g2 g3 g4 g5 f0 f1 f2 f3 f4 f5 hb
      go_wp2_with fail
      go_roundw
      case rel => exact ⟨k + 1, by omega, by go_num, hb2⟩
      case measure => simp [intOf]; omega
    · clear HR HR'
      go_wp2_with fail
      go_ret
      exact ⟨rfl, hb⟩

set_option maxHeartbeats 800000 in
theorem eqTlb_same (sets ways : Int) (a b : Option Addr) (n ca cb : Nat) (es : List EntM) (w : World) (h : RowC w a n 6 (entsC es)) (h' : RowC w b n 6 (entsC es)) (hn : es.length = n) (hl : n ≤ 1048576) :
    Calls Try.prog 45 #[.agg #[.int .i64 sets, .int .i64 ways, .slice a n ca], .agg #[.int .i64 sets, .int .i64 ways, .slice b n cb]] w fun e w' => e = .returned (.bool true) ∧ Below w.heap.size w w' := by
  have n1 := ((Below.refl w.heap.size w).alloc (Nat.le_refl _) (Obj.cells #[.int .i64 sets, .int .i64 ways, .slice a n ca] 63)).alloc (by simp) (Obj.cells #[.int .i64 sets, .int .i64 ways, .slice b n cb] 63)
  have HR : Hid (RowC _ a n 6 (entsC es)) := RowC.keep h n1
  have HR' : Hid (RowC _ b n 6 (entsC es)) := RowC.keep h' n1
  clear h h'
  go_enter Try.func45, Try.ntmps45
  go_wp2_with fail
  refine (eqEntryS_same a b n ca cb es _ HR.out HR'.out hn hl).mono ?_
  rintro e v2 ⟨rfl, n2⟩
  have n12 := Below.step n1 n2 (Nat.le_refl _)
  clear n1 n2 HR HR'
  go_wp2_with fail
  go_ret
  exact ⟨rfl, n12⟩

end Go.Proofs.Ythekickjjaleaab
