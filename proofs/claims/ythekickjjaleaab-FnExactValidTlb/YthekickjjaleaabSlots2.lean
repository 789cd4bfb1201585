/- A row of empty slots that is made, and a block beside it. No program is named here. -/
import Derived.Test.YthekickjjaleaabSlots
namespace Go.Proofs.Ythekickjjaleaab
open Go.RowKit
set_option linter.unusedVariables false

theorem made_rep (z : EntM) (n : Nat) : (madeCells (slotC z).toArray (n * 6)).toList = slotsC (List.replicate n z) := by
  apply List.ext_getElem?
  intro j
  by_cases hj : j < n * 6
  · have hq : j / 6 < (List.replicate n z).length := by simp; omega
    have := slotsC_at (List.replicate n z) (j / 6) (j % 6) hq (by omega)
    rw [show j / 6 * 6 + j % 6 = j by omega] at this
    rw [this]
    have h6 : j % 6 < (slotC z).length := by simp [slotC]; omega
    simp only [madeCells, List.getElem_replicate]
    rw [List.getElem?_eq_getElem h6]
    simp [hj, slotC]
    rw [List.getElem?_eq_getElem (by simpa [slotC] using h6)]
    rfl
  · rw [List.getElem?_eq_none (by simp [madeCells]; omega), List.getElem?_eq_none (by rw [slotsC_len]; simp; omega)]

theorem two_new1 (v : World) (T E : TypeId) (xs cs : Array Value) (ss : List Value) (n : Nat) (hcs : cs.toList = ss) (hn : ss.length = n * 6) (hm : n ≤ maxLen) :
    ((v.alloc (.cells cs E)).alloc (.cells xs T)).drew.heap[v.heap.size + 1]? = some (.cells xs T (0, 0)) ∧ ((v.alloc (.cells cs E)).alloc (.cells xs T)).drew.ownsRow v.heap.size E 6 (.slice (some ⟨v.heap.size, 0, none⟩) n n) n ss ∧
      Below v.heap.size v ((v.alloc (.cells cs E)).alloc (.cells xs T)).drew ∧ v.heap.size + 1 < ((v.alloc (.cells cs E)).alloc (.cells xs T)).drew.heap.size := by
  have hs : cs.size = n * 6 := by rw [← hn, ← hcs]; simp
  have h1 := World.ownsRow_lit (e := E) (size := 6) v cs n (Nat.le_refl v.heap.size) hm hs
  rw [hcs] at h1
  refine ⟨?_, own_below h1 (((Below.refl _ _).alloc (Nat.le_refl _) _).drew), (((Below.refl v.heap.size v).alloc (Nat.le_refl _) _).alloc (by simp) _).drew, ?_⟩
  · have := heap_alloc_new (v.alloc (.cells cs E)) (.cells xs T)
    simp only [World.size_alloc] at this
    exact this
  · show _ < ((v.alloc (.cells cs E)).alloc (.cells xs T)).heap.size
    simp

theorem two_new2 (v : World) (T E : TypeId) (xs cs : Array Value) (ss : List Value) (n : Nat) (hcs : cs.toList = ss) (hn : ss.length = n * 6) (hm : n ≤ maxLen) :
    ((v.alloc (.cells xs T)).alloc (.cells cs E)).drew.heap[v.heap.size]? = some (.cells xs T (0, 0)) ∧ ((v.alloc (.cells xs T)).alloc (.cells cs E)).drew.ownsRow v.heap.size E 6 (.slice (some ⟨v.heap.size + 1, 0, none⟩) n n) n ss ∧
      Below v.heap.size v ((v.alloc (.cells xs T)).alloc (.cells cs E)).drew ∧ v.heap.size < ((v.alloc (.cells xs T)).alloc (.cells cs E)).drew.heap.size := by
  have hs : cs.size = n * 6 := by rw [← hn, ← hcs]; simp
  have h1 := World.ownsRow_lit (e := E) (size := 6) (v.alloc (.cells xs T)) cs n (base := v.heap.size) (by simp) hm hs
  rw [hcs] at h1
  simp only [World.size_alloc] at h1
  refine ⟨?_, h1, (((Below.refl v.heap.size v).alloc (Nat.le_refl _) _).alloc (by simp) _).drew, ?_⟩
  · show ((v.alloc (.cells xs T)).alloc (.cells cs E)).heap[v.heap.size]? = _
    rw [heap_alloc_old _ _ (by simp)]
    exact heap_alloc_new v _
  · show _ < ((v.alloc (.cells xs T)).alloc (.cells cs E)).heap.size
    simp
    omega

theorem slotRow_cell {w : World} {g n : Nat} {es : List EntM} (h : RowC w (some ⟨g, 0, none⟩) n 6 (slotsC es)) (hn : es.length = n) (k : Nat) (x : EntM) (hx : es[k]? = some x) (j : Nat) (v : Value) (hj : j < 6) (hv : (slotC x)[j]? = some v) :
    w.cell? ⟨g, k * 6 + j, none⟩ = some v := by
  have hk : k < es.length := (List.getElem?_eq_some_iff.1 hx).1
  rcases h.2 with h0 | ⟨b', off', e, _, hc⟩
  · omega
  · simp at e
    obtain ⟨rfl, rfl⟩ := e
    have := hc (k * 6 + j) v (by
      rw [slotsC_at es k j hk hj]
      obtain ⟨_, rfl⟩ := List.getElem?_eq_some_iff.1 hx
      exact hv)
    rw [Nat.zero_add] at this
    exact this

theorem gb_of {w w' : World} {r : Option Nat} (h : Below w.heap.size w w') : w.grownBy w' r :=
  ⟨h.os, h.tape, h.output, h.size, fun i hi _ => h.block i hi⟩

theorem gb_drew (w : World) (r : Option Nat) : w.grownBy w.drew r := gb_of (Below.refl _ _).drew

theorem belH4 {B : Nat} {a w : World} {g : Nat} (h : Below B a w) (hg : B ≤ g) (x y z u : Value) : Below B a ((((w.setCell ⟨g, 0, none⟩ x).setCell ⟨g, 1, none⟩ y).setCell ⟨g, 2, none⟩ z).setCell ⟨g, 3, none⟩ u) :=
  (bel3 h hg x y z).setCell (p := ⟨g, 3, none⟩) hg u

/-- What a search in a cache answers; nothing where the cache is not valid. -/
def hitIf (q : Bool) (X : Bool × Int × Int × Int) : Bool × Int × Int × Int := if q = true then X else (false, 0, 0, 0)

def HitAns (q : Bool) (X : Bool × Int × Int × Int) (e : Ending) : Prop :=
  e = .returned (.tuple #[.agg #[.bool (hitIf q X).1, .int .i64 (hitIf q X).2.1, .int .i64 (hitIf q X).2.2.1, .int .u64 (hitIf q X).2.2.2], .bool q])

end Go.Proofs.Ythekickjjaleaab
