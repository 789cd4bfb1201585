/- A fence as a function value in memory. -/
import Derived.Test.YtgdcghpanaljdabImpl4c
namespace Go.Proofs.Ytgdcghpanaljdab
open Go.RowKit
set_option linter.unusedVariables false

def CovVal (B : Nat) (w : World) (cv : Value) (f : FenceM) : Prop :=
  (f.hasVa = true ∧ canonM f.va = false ∧ cv = .func (.func 146) #[] #[]) ∨
  ((f.hasVa = false ∨ canonM f.va = true) ∧ ∃ pf pv, cv = .func (.func 147) #[] #[.pointer (some ⟨pf, 0, none⟩), .pointer (some ⟨pv, 0, none⟩)] ∧ pf < B ∧ pv < B ∧
    w.heap[pf]? = some (.cells #[.bool f.hasVa, .int .u64 f.va, .bool f.hasAsid, .int .u64 f.asid] 82 (0, 0)) ∧ w.heap[pv]? = some (.cells #[.int .u64 f.va] 94 (0, 0)))

theorem CovVal.keep {B : Nat} {w w' : World} {cv : Value} {f : FenceM} (h : CovVal B w cv f) (hb : Below w.heap.size w w') : CovVal B w' cv f := by
  rcases h with h | ⟨h1, pf, pv, rfl, lf, lp, hF, hV⟩
  · exact .inl h
  · exact .inr ⟨h1, pf, pv, rfl, lf, lp, heap_keep hF hb (Array.getElem?_eq_some_iff.1 hF).1, heap_keep hV hb (Array.getElem?_eq_some_iff.1 hV).1⟩

theorem CovVal.up {B B' : Nat} {w : World} {cv : Value} {f : FenceM} (h : CovVal B w cv f) (hb : B ≤ B') : CovVal B' w cv f := by
  rcases h with h | ⟨h1, pf, pv, rfl, lf, lp, hF, hV⟩
  · exact .inl h
  · exact .inr ⟨h1, pf, pv, rfl, by omega, by omega, hF, hV⟩

theorem CovAns.val {base : Nat} {w : World} {e : Ending} {f : FenceM} (h : CovAns base w e f) : ∃ cv, e = .returned cv ∧ CovVal w.heap.size w cv f := by
  rcases h with ⟨h1, h2, rfl⟩ | ⟨h1, pf, pv, rfl, lf, lp, hF, hV⟩
  · exact ⟨_, rfl, .inl ⟨h1, h2, rfl⟩⟩
  · exact ⟨_, rfl, .inr ⟨h1, pf, pv, rfl, (Array.getElem?_eq_some_iff.1 hF).1, (Array.getElem?_eq_some_iff.1 hV).1, hF, hV⟩⟩

theorem struck_id {f : FenceM} (es : List EntM) (h1 : f.hasVa = true) (h2 : canonM f.va = false) : es.map (struckM f) = es := by
  have : struckM f = id := by
    funext e
    simp [struckM, covers_not f _ _ _ _ h1 h2]
  rw [this, List.map_id]

end Go.Proofs.Ytgdcghpanaljdab
