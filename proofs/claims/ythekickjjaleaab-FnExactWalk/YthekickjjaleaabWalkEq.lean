/- The laws' helpers over records of a walk: eqRec, eqRecS, eqWalkRes. -/
import Derived.Test.YthekickjjaleaabImpl3p
import Derived.Test.YthekickjjaleaabLies
namespace Go.Proofs.Ythekickjjaleaab
open Go.RowKit
set_option linter.unusedVariables false
attribute [local go_sem ↓] Go.wp_at_zero Go.wp_at_succ

theorem recsC_at : ∀ (rs : List RecM) (i j : Nat) (hi : i < rs.length), j < 3 → (recsC rs)[i * 3 + j]? = (recC rs[i])[j]?
  | r :: rs, 0, j, hi, hj => by
    simp only [recsC, List.getElem_cons_zero, Nat.zero_mul, Nat.zero_add]
    rw [List.getElem?_append_left (by simpa [recC] using hj)]
  | r :: rs, i + 1, j, hi, hj => by
    simp only [recsC, List.getElem_cons_succ]
    rw [List.getElem?_append_right (by simp [recC]; omega)]
    have : (i + 1) * 3 + j - (recC r).length = i * 3 + j := by simp [recC]; omega
    rw [this]
    exact recsC_at rs i j (by simpa using hi) hj

theorem rec_cell {w : World} {b off n : Nat} {rs : List RecM} (h : RowC w (some ⟨b, off, none⟩) n 3 (recsC rs)) (hn : rs.length = n) (k : Nat) (x : RecM) (hx : rs[k]? = some x) (j : Nat) (v : Value) (hj : j < 3) (hv : (recC x)[j]? = some v) :
    w.cell? ⟨b, off + k * 3 + j, none⟩ = some v := by
  obtain ⟨h1, h2⟩ := h
  obtain ⟨hk, rfl⟩ := List.getElem?_eq_some_iff.1 hx
  rcases h2 with h2 | ⟨b', off', e, _, hc⟩
  · omega
  · simp at e
    obtain ⟨rfl, rfl⟩ := e
    have := hc (k * 3 + j) v (by rw [recsC_at rs k j hk hj]; exact hv)
    rw [← Nat.add_assoc] at this
    exact this

set_option maxHeartbeats 400000 in
theorem eqRec_same (l a v : Int) (w : World) :
    Calls Try.prog 125 #[.agg #[.int .i64 l, .int .u64 a, .int .u64 v], .agg #[.int .i64 l, .int .u64 a, .int .u64 v]] w fun e w' => e = .returned (.bool true) ∧ Below w.heap.size w w' := by
  go_enter Try.func125, Try.ntmps125
  go_wp2_with fail
  go_ret
  exact ⟨rfl, ((Below.refl _ _).alloc (Nat.le_refl _) _).alloc (by simp) _⟩

set_option maxHeartbeats 800000 in
theorem eqRecS_same (a b : Option Addr) (n ca cb : Nat) (rs : List RecM) (w : World) (h : RowC w a n 3 (recsC rs)) (h' : RowC w b n 3 (recsC rs)) (hn : rs.length = n) (hl : n ≤ 1048576) :
    Calls Try.prog 85 #[.slice a n ca, .slice b n cb] w fun e w' => e = .returned (.bool true) ∧ Below w.heap.size w w' := by
  have HR : Hid (RowC w a n 3 (recsC rs)) := h
  have HR' : Hid (RowC w b n 3 (recsC rs)) := h'
  clear h h'
  go_enter Try.func85, Try.ntmps85
  go_wp2_with fail
  go_loopw [5] (fun i wr => ∃ (k : Nat), k ≤ n ∧ i = .int .i64 k ∧ Below w.heap.size w wr) (fun i _ => n - (intOf i).toNat)
  case atStart => exact ⟨0, Nat.zero_le _, rfl, Below.refl _ _⟩
  case round =>
    obtain ⟨k, hk, rfl, hb⟩ := hrel
    by_cases hlt : k < n
    · obtain ⟨⟨l, ad, vl⟩, hx⟩ : ∃ x : RecM, rs[k]? = some x := ⟨_, List.getElem?_eq_getElem (by omega)⟩
      have R1 := RowC.keep HR.out hb
      have R2 := RowC.keep HR'.out hb
      obtain ⟨b1, o1, rfl, lb1⟩ : ∃ b1 o1, a = some ⟨b1, o1, none⟩ ∧ b1 < wr.heap.size := by
        rcases R1.2 with h | ⟨b1, o1, h, h2, _⟩
        · omega
        · exact ⟨b1, o1, h, h2⟩
      obtain ⟨b2, o2, rfl, lb2⟩ : ∃ b2 o2, b = some ⟨b2, o2, none⟩ ∧ b2 < wr.heap.size := by
        rcases R2.2 with h | ⟨b2, o2, h, h2, _⟩
        · omega
        · exact ⟨b2, o2, h, h2⟩
      have g0 := lies_cell (rec_cell R1 hn k _ hx 0 _ (by omega) rfl) lb1
      have g1 := lies_cell (rec_cell R1 hn k _ hx 1 _ (by omega) rfl) lb1
      have g2 := lies_cell (rec_cell R1 hn k _ hx 2 _ (by omega) rfl) lb1
      have f0 := lies_cell (rec_cell R2 hn k _ hx 0 _ (by omega) rfl) lb2
      have f1 := lies_cell (rec_cell R2 hn k _ hx 1 _ (by omega) rfl) lb2
      have f2 := lies_cell (rec_cell R2 hn k _ hx 2 _ (by omega) rfl) lb2
      simp only [Nat.add_zero] at g0 f0
      have ne := lies_some wr
      clear R1 R2 hx
      go_wp2_with fail
      refine wp_region_lies (by kernel_rfl) (by kernel_rfl) ?_
      repeat (go_big_quiet_step ((go_at_call 125; exact lies_quiet _ (eqRec_same _ _ _ _))))
      refine wpQuiet_nil ?_
      rintro _ ⟨u, rfl⟩
      have hb2 := Below.step hb u.h (Nat.le_refl _)
      generalize u.w = v2 at hb2 ⊢
      clear g0 g1 g2 f0 f1 f2 hb
      go_wp2_with fail
      go_roundw
      case rel => exact ⟨k + 1, by omega, by go_num, hb2⟩
      case measure => simp [intOf]; omega
    · clear HR HR'
      go_wp2_with fail
      go_ret
      exact ⟨rfl, hb⟩

set_option maxHeartbeats 800000 in
theorem eqWalkRes_same (c l p : Int) (a b : Option Addr) (n ca cb : Nat) (rs : List RecM) (w : World) (h : RowC w a n 3 (recsC rs)) (h' : RowC w b n 3 (recsC rs)) (hn : rs.length = n) (hl : n ≤ 1048576) :
    Calls Try.prog 34 #[.agg #[.int .i64 c, .int .i64 l, .int .u64 p, .slice a n ca], .agg #[.int .i64 c, .int .i64 l, .int .u64 p, .slice b n cb]] w fun e w' => e = .returned (.bool true) ∧ Below w.heap.size w w' := by
  have n1 := ((Below.refl w.heap.size w).alloc (Nat.le_refl _) (Obj.cells #[.int .i64 c, .int .i64 l, .int .u64 p, .slice a n ca] 42)).alloc (by simp) (Obj.cells #[.int .i64 c, .int .i64 l, .int .u64 p, .slice b n cb] 42)
  have HR : Hid (RowC _ a n 3 (recsC rs)) := RowC.keep h n1
  have HR' : Hid (RowC _ b n 3 (recsC rs)) := RowC.keep h' n1
  clear h h'
  go_enter Try.func34, Try.ntmps34
  go_wp2_with fail
  refine (eqRecS_same a b n ca cb rs _ HR.out HR'.out hn hl).mono ?_
  rintro e v2 ⟨rfl, n2⟩
  have n12 := Below.step n1 n2 (Nat.le_refl _)
  clear n1 n2 HR HR'
  go_wp2_with fail
  go_ret
  exact ⟨rfl, n12⟩

/-- The value of cell t of records that were marked from k0 on. -/
def mkV (k0 : Int) (t : Nat) : Value := if t % 3 = 0 then .int .i64 (k0 + t) else .int .u64 (k0 + t)
def mkL (k0 : Int) (m : Nat) : List Value := (List.range m).map (mkV k0)

theorem mkL_at (k0 : Int) (m t : Nat) (h : t < m) : (mkL k0 m)[t]? = some (mkV k0 t) := by
  simp [mkL, h]

theorem mkV0 (k0 : Int) (i : Nat) : mkV k0 (i * 3) = .int .i64 (k0 + i * 3) := by
  rw [mkV, if_pos (by omega)]; push_cast; rfl
theorem mkV1 (k0 : Int) (i : Nat) : mkV k0 (i * 3 + 1) = .int .u64 (k0 + i * 3 + 1) := by
  rw [mkV, if_neg (by omega)]; push_cast; rw [Int.add_assoc]
theorem mkV2 (k0 : Int) (i : Nat) : mkV k0 (i * 3 + 2) = .int .u64 (k0 + i * 3 + 1 + 1) := by
  rw [mkV, if_neg (by omega)]; push_cast; congr 1; omega

theorem mk_step (k0 : Int) (i m : Nat) (ys : List Value) (hy : ys.length = m) (hi : i * 3 + 2 < m) (h : ∀ t, t < i * 3 → ys[t]? = some (mkV k0 t)) :
    ∀ t, t < (i + 1) * 3 → (((ys.set (i * 3) (.int .i64 (k0 + i * 3))).set (i * 3 + 1) (.int .u64 (k0 + i * 3 + 1))).set (i * 3 + 2) (.int .u64 (k0 + i * 3 + 1 + 1)))[t]? = some (mkV k0 t) := by
  intro t ht
  by_cases h0 : t < i * 3
  · rw [List.getElem?_set_ne (by omega), List.getElem?_set_ne (by omega), List.getElem?_set_ne (by omega)]
    exact h t h0
  · rcases (show t = i * 3 ∨ t = i * 3 + 1 ∨ t = i * 3 + 2 by omega) with rfl | rfl | rfl
    · rw [List.getElem?_set_ne (by omega), List.getElem?_set_ne (by omega), List.getElem?_set_self (by omega), mkV0]
    · rw [List.getElem?_set_ne (by omega), List.getElem?_set_self (by simp; omega), mkV1]
    · rw [List.getElem?_set_self (by simp; omega), mkV2]

end Go.Proofs.Ythekickjjaleaab
