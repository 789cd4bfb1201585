/- A cell of a block that is known. No program is named here. -/
import Derived.Test.YtgdcghpanaljdabOwn
namespace Go.Proofs.Ytgdcghpanaljdab
open Go.RowKit

theorem cell_of {v : World} {p : Nat} {cs : Array Value} {T : TypeId} (h : v.heap[p]? = some (.cells cs T (0, 0))) (i : Nat) (x : Value) (hx : cs[i]? = some x) : v.cell? ⟨p, i, none⟩ = some x := by
  simp [World.cell?, h, hx]

theorem three_setL {v : World} {p : Nat} {T : TypeId} {a b c x y z : Value} (h : v.heap[p]? = some (.cells #[a, b, c] T (0, 0))) : (((v.setCell ⟨p, 0, none⟩ x).setCell ⟨p, 1, none⟩ y).setCell ⟨p, 2, none⟩ z).heap[p]? = some (.cells #[x, y, z] T (0, 0)) := by
  simp [World.setCell, Array.getElem?_modify, h]

end Go.Proofs.Ytgdcghpanaljdab
