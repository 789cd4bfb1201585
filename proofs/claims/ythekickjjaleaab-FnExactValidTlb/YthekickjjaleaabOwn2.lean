/- Stores into rows of one's own; a world that has grown but for one block. No program is named here. -/
import Derived.Test.YthekickjjaleaabOwn
import Derived.StillTailTactics
namespace Go.Proofs.Ythekickjjaleaab
open Go.RowKit
set_option linter.unusedVariables false

theorem own_store {e : TypeId} {size : Nat} {w : World} {base g n cap : Nat} {cs : List Value} (h : w.ownsRow base e size (.slice (some ⟨g, 0, none⟩) n cap) n cs) (j : Nat) (u : Value) :
    (w.setCell ⟨g, j, none⟩ u).ownsRow base e size (.slice (some ⟨g, 0, none⟩) n cap) n (cs.set j u) := by
  obtain ⟨h1, h2⟩ := h
  refine ⟨by simpa using h1, ?_⟩
  rcases h2 with ⟨h2, _⟩ | ⟨g', cap', cur, h2, hb, hg, hc1, hc2, hc3, ht⟩
  · cases h2
  · cases h2
    refine .inr ⟨g, cap, cur.setIfInBounds j u, rfl, hb, by simp [World.setCell, Array.getElem?_modify, hg], hc1, hc2, by simpa using hc3, ?_⟩
    subst ht
    rw [Array.toList_setIfInBounds, List.take_set]

theorem own_cell {e : TypeId} {size : Nat} {w : World} {base g n cap : Nat} {cs : List Value} (h : w.ownsRow base e size (.slice (some ⟨g, 0, none⟩) n cap) n cs) (j : Nat) (u : Value) (hj : cs[j]? = some u) : w.cell? ⟨g, j, none⟩ = some u :=
  (CurAt.of_own h).1.cell j u hj

theorem own_free {e : TypeId} {size : Nat} {w : World} {base g n cap : Nat} {cs : List Value} (h : w.ownsRow base e size (.slice (some ⟨g, 0, none⟩) n cap) n cs) (j : Nat) : w.frozen? ⟨g, j, none⟩ = false :=
  (CurAt.of_own h).1.free j

theorem gb_below {a b c : World} {r : Option Nat} (h : a.grownBy b r) (k : Below b.heap.size b c) : a.grownBy c r :=
  ⟨k.os.trans h.os, k.tape.trans h.tape, k.output.trans h.output, Nat.le_trans h.size k.size, fun i hi hn => (k.block i (Nat.lt_of_lt_of_le hi h.size)).trans (h.block i hi hn)⟩

theorem gb_cell {a b : World} {r g o : Nat} {x : Option Value} (h : a.grownBy b (some r)) (hc : a.cell? ⟨g, o, none⟩ = x) (hg : g < a.heap.size) (hne : g ≠ r) : b.cell? ⟨g, o, none⟩ = x :=
  (World.cell?_of_block (h.block g hg (by simpa using hne))).trans hc

theorem gb_row {a b : World} {r n size : Nat} {q : Option Addr} {cs : List Value} (h : RowC a q n size cs) (hg : a.grownBy b (some r)) (hr : a.heap.size ≤ r ∨ ∀ x, q = some x → x.block ≠ r) : RowC b q n size cs := by
  obtain ⟨h1, h2⟩ := h
  refine ⟨h1, ?_⟩
  rcases h2 with h2 | ⟨bk, off, rfl, hlt, hc⟩
  · exact .inl h2
  · refine .inr ⟨bk, off, rfl, Nat.lt_of_lt_of_le hlt hg.size, fun i u hu => ?_⟩
    exact gb_cell hg (hc i u hu) hlt (by
      rcases hr with hr | hr
      · omega
      · exact hr _ rfl)

/-- A region that draws, whose first n operations only read, and whose others come after them in the order of the text. -/
theorem wp_region_tail {P : Program} {id : Nat} {Q : Exit → Act → World → Prop} {a : Act} {w : World} {l : List Oper} (n : Nat) (hm : P.follows .mixedOrders = true) (hB : Region.lexTailB .any l.toArray n = true)
    (h : wpStill P l.toArray w.drew (fun a' => wpList P l.toArray Q (l.drop n) a' w.drew) (l.take n) a) : (Code.region id l.toArray true).wp P Q a w :=
  wp_region_still_tail n hm hB h

end Go.Proofs.Ythekickjjaleaab
