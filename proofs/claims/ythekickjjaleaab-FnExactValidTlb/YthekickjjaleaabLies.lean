/- A region that draws its order, whose operations read and whose callees make new memory alone: one walk, in the order of the text. -/
import Derived.Test.YthekickjjaleaabCells
import Derived.Deep.QuietTactic
import Derived.BigQuiet
namespace Go.Proofs.Ythekickjjaleaab
open Go.RowKit
set_option linter.unusedVariables false

/-- A world in which all that lies in v is as it was. -/
structure Lies (v : World) where
  w : World
  h : Below v.heap.size v w

theorem lies_some (v : World) : Nonempty (Lies v) := ⟨⟨v, Below.refl _ _⟩⟩

theorem lies_quiet {P : Program} {f : FuncId} {args : Array Value} {v : World} (u : Lies v) {x : Value} (h : Calls P f args u.w fun e w' => e = .returned x ∧ Below u.w.heap.size u.w w') :
    Calls P f args u.w fun e w'' => e = .returned x ∧ ∃ u' : Lies v, w'' = u'.w :=
  h.mono fun e w' ⟨he, hb⟩ => ⟨he, ⟨w', Below.step u.h hb (Nat.le_refl _)⟩, rfl⟩

theorem lies_same {P : Program} {f : FuncId} {args : Array Value} {v : World} (u : Lies v) {x : Value} (h : Calls P f args u.w fun e w' => e = .returned x ∧ w' = u.w) :
    Calls P f args u.w fun e w'' => e = .returned x ∧ ∃ u' : Lies v, w'' = u'.w :=
  h.mono fun e w' ⟨he, hb⟩ => ⟨he, u, hb⟩

theorem lies_drew {P : Program} {f : FuncId} {args : Array Value} {v : World} (u : Lies v) {x : Value} (h : Calls P f args u.w fun e w' => e = .returned x ∧ ∃ n, w' = u.w.drewN n) :
    Calls P f args u.w fun e w'' => e = .returned x ∧ ∃ u' : Lies v, w'' = u'.w :=
  h.mono fun e w' ⟨he, n, hb⟩ => ⟨he, ⟨w', by rw [hb]; exact below_drewN u.h n⟩, rfl⟩

theorem lies_cell {v : World} {b o : Nat} {x : Value} (hc : v.cell? ⟨b, o, none⟩ = some x) (hb : b < v.heap.size) (u : Lies v) : u.w.cell? ⟨b, o, none⟩ = some x := Below.cell2 u.h hc hb

theorem wp_region_lies {P : Program} {id : Nat} {Q : Exit → Act → World → Prop} {a : Act} {w : World} {l : List Oper} (hm : P.follows .mixedOrders = true) (hB : Region.lexB .any l.toArray = true)
    (h : wpQuiet P l.toArray (fun w' => ∃ u : Lies w, w' = u.w) (fun a' => ∀ w', (∃ u : Lies w, w' = u.w) → Q .normal a' w') l a) : (Code.region id l.toArray true).wp P Q a w :=
  wp_region_quiet (C := fun w' => ∃ u : Lies w, w' = u.w) hm hB ⟨⟨w.drew, (Below.refl _ _).drew⟩, rfl⟩ (by simpa using h)

end Go.Proofs.Ythekickjjaleaab
