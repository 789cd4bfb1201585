/- The slots of the program's caches: an entry's cells in another order. No program is named here. -/
import Derived.Test.YthekickjjaleaabOwn2
import Derived.Test.YthekickjjaleaabMath4t
namespace Go.Proofs.Ythekickjjaleaab
open Go.RowKit
set_option linter.unusedVariables false

def slotC (e : EntM) : List Value := [.int .i64 e.level, .int .u64 e.tag, .int .u64 e.asid, .bool e.glob, .bool e.valid, .int .u64 e.pte]
def slotV (e : EntM) : Value := .agg #[.int .i64 e.level, .int .u64 e.tag, .int .u64 e.asid, .bool e.glob, .bool e.valid, .int .u64 e.pte]

def slotsC : List EntM → List Value
  | [] => []
  | e :: r => slotC e ++ slotsC r

theorem slotsC_len : ∀ es : List EntM, (slotsC es).length = es.length * 6
  | [] => rfl
  | e :: r => by simp [slotsC, slotC, slotsC_len r]; omega

theorem slotsC_at : ∀ (es : List EntM) (i j : Nat) (hi : i < es.length), j < 6 → (slotsC es)[i * 6 + j]? = (slotC es[i])[j]?
  | e :: r, 0, j, hi, hj => by
    simp only [slotsC, List.getElem_cons_zero, Nat.zero_mul, Nat.zero_add]
    rw [List.getElem?_append_left (by simp [slotC]; exact hj)]
  | e :: r, i + 1, j, hi, hj => by
    simp only [slotsC, List.getElem_cons_succ]
    rw [List.getElem?_append_right (by simp [slotC]; omega)]
    rw [show (i + 1) * 6 + j - (slotC e).length = i * 6 + j by simp [slotC]; omega]
    exact slotsC_at r i j (by simpa using hi) hj

theorem slotsC_set : ∀ (l : List EntM) (k : Nat) (e : EntM), k < l.length → slotsC (l.set k e) = ((((((slotsC l).set (k * 6) (.int .i64 e.level)).set (k * 6 + 1) (.int .u64 e.tag)).set (k * 6 + 2) (.int .u64 e.asid)).set (k * 6 + 3) (.bool e.glob)).set (k * 6 + 4) (.bool e.valid)).set (k * 6 + 5) (.int .u64 e.pte)
  | x :: r, 0, e, h => by simp [slotsC, slotC]
  | x :: r, k + 1, e, h => by
    have ih := slotsC_set r k e (by simpa using h)
    rw [List.set_cons_succ]
    simp only [slotsC, ih]
    rw [show (k + 1) * 6 = (slotC x).length + k * 6 by simp [slotC]; omega]
    simp only [Nat.add_assoc]
    rw [List.set_append_right _ _ (by simp [slotC]), List.set_append_right _ _ (by omega), List.set_append_right _ _ (by omega), List.set_append_right _ _ (by omega), List.set_append_right _ _ (by omega), List.set_append_right _ _ (by omega)]
    simp

theorem slot_cell {e : TypeId} {w : World} {base g n cap : Nat} {es : List EntM} (h : w.ownsRow base e 6 (.slice (some ⟨g, 0, none⟩) n cap) n (slotsC es)) (hn : es.length = n) (k : Nat) (x : EntM) (hx : es[k]? = some x) (j : Nat) (v : Value) (hj : j < 6) (hv : (slotC x)[j]? = some v) :
    w.cell? ⟨g, k * 6 + j, none⟩ = some v := by
  have hk : k < es.length := (List.getElem?_eq_some_iff.1 hx).1
  refine own_cell h _ _ ?_
  rw [slotsC_at es k j hk hj]
  obtain ⟨_, rfl⟩ := List.getElem?_eq_some_iff.1 hx
  exact hv

/-- The first k entries, the rest empty. -/
def firstN (k n : Nat) (es : List EntM) : List EntM := es.take k ++ List.replicate (n - k) ent0

theorem firstN_len (k : Nat) (es : List EntM) (hk : k ≤ es.length) : (firstN k es.length es).length = es.length := by
  simp [firstN]; omega

theorem firstN_next (k : Nat) (es : List EntM) (x : EntM) (hx : es[k]? = some x) : firstN (k + 1) es.length es = (firstN k es.length es).set k x := by
  obtain ⟨hk, rfl⟩ := List.getElem?_eq_some_iff.1 hx
  unfold firstN
  apply List.ext_getElem?
  intro j
  rw [List.getElem?_set]
  by_cases hj : k = j
  · subst hj
    rw [if_pos rfl, if_pos (by simp; omega), List.getElem?_append_left (by simp; omega)]
    simp [hk]
  · rw [if_neg hj]
    by_cases hlt : j < k
    · rw [List.getElem?_append_left (by simp; omega), List.getElem?_append_left (by simp; omega)]
      simp [hlt, show j < k + 1 by omega]
    · rw [List.getElem?_append_right (by simp; omega), List.getElem?_append_right (by simp; omega)]
      simp only [List.length_take, List.getElem?_replicate]
      rw [show min (k + 1) es.length = k + 1 by omega, show min k es.length = k by omega]
      by_cases hh : j < es.length
      · rw [if_pos (by omega), if_pos (by omega)]
      · rw [if_neg (by omega), if_neg (by omega)]

theorem firstN_zero (k : Nat) (es : List EntM) (hx : es[k]? = some ent0) : firstN (k + 1) es.length es = firstN k es.length es := by
  rw [firstN_next k es ent0 hx]
  have hk : k < es.length := (List.getElem?_eq_some_iff.1 hx).1
  apply List.ext_getElem?
  intro j
  rw [List.getElem?_set]
  by_cases hj : k = j
  · subst hj
    rw [if_pos rfl, if_pos (by rw [firstN_len _ _ (by omega)]; exact hk)]
    unfold firstN
    rw [List.getElem?_append_right (by simp; omega)]
    simp only [List.length_take, List.getElem?_replicate]
    rw [if_pos (by omega)]
  · rw [if_neg hj]

theorem firstN_all (es : List EntM) : firstN es.length es.length es = es := by
  simp [firstN]

theorem slotsC_rep : ∀ n : Nat, slotsC (List.replicate n ent0) = (List.replicate n (slotC ent0)).flatten
  | 0 => rfl
  | n + 1 => by rw [List.replicate_succ, List.replicate_succ, slotsC, slotsC_rep n]; rfl

theorem firstN_start (n : Nat) (es : List EntM) : firstN 0 n es = List.replicate n ent0 := by simp [firstN]

theorem belS6 {B : Nat} {a w : World} {g : Nat} (h : Below B a w) (hg : B ≤ g) (x y z u v t : Value) : Below B a ((((((w.setCell ⟨g, 0, none⟩ x).setCell ⟨g, 1, none⟩ y).setCell ⟨g, 2, none⟩ z).setCell ⟨g, 3, none⟩ u).setCell ⟨g, 4, none⟩ v).setCell ⟨g, 5, none⟩ t) :=
  (((bel3 h hg x y z).setCell (p := ⟨g, 3, none⟩) hg u).setCell (p := ⟨g, 4, none⟩) hg v).setCell (p := ⟨g, 5, none⟩) hg t

theorem six_at {v : World} {p : Nat} {T : TypeId} {a b c d e f : Value} (h : v.heap[p]? = some (.cells #[a, b, c, d, e, f] T (0, 0))) :
    (v.cell? ⟨p, 0, none⟩ = some a ∧ v.cell? ⟨p, 1, none⟩ = some b ∧ v.cell? ⟨p, 2, none⟩ = some c ∧ v.cell? ⟨p, 3, none⟩ = some d ∧ v.cell? ⟨p, 4, none⟩ = some e ∧ v.cell? ⟨p, 5, none⟩ = some f) ∧
      (v.frozen? ⟨p, 0, none⟩ = false ∧ v.frozen? ⟨p, 1, none⟩ = false ∧ v.frozen? ⟨p, 2, none⟩ = false ∧ v.frozen? ⟨p, 3, none⟩ = false ∧ v.frozen? ⟨p, 4, none⟩ = false ∧ v.frozen? ⟨p, 5, none⟩ = false) := by
  simp [World.cell?, World.frozen?, h]

end Go.Proofs.Ythekickjjaleaab
