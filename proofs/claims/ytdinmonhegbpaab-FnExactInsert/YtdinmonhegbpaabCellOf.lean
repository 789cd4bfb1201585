/- A cell of a block that is known. No program is named here. -/
import Derived.Test.YtdinmonhegbpaabOwn
namespace Go.Proofs.Ytdinmonhegbpaab
open Go.RowKit

theorem cell_of {v : World} {p : Nat} {cs : Array Value} {T : TypeId} (h : v.heap[p]? = some (.cells cs T (0, 0))) (i : Nat) (x : Value) (hx : cs[i]? = some x) : v.cell? ⟨p, i, none⟩ = some x := by
  simp [World.cell?, h, hx]

end Go.Proofs.Ytdinmonhegbpaab
