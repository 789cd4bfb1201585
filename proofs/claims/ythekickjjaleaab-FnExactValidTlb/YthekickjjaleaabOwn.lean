/- Rows of one's own and small blocks in memory. No program is named here. -/
import Derived.Test.YthekickjjaleaabSpec3
namespace Go.Proofs.Ythekickjjaleaab
open Go.RowKit
set_option linter.unusedVariables false

theorem three_cells {v : World} {p : Nat} {T : TypeId} {a b c : Value} (h : v.heap[p]? = some (.cells #[a, b, c] T (0, 0))) :
    (v.cell? ⟨p, 0, none⟩ = some a ∧ v.cell? ⟨p, 1, none⟩ = some b ∧ v.cell? ⟨p, 2, none⟩ = some c) ∧ v.frozen? ⟨p, 0, none⟩ = false ∧ v.frozen? ⟨p, 1, none⟩ = false ∧ v.frozen? ⟨p, 2, none⟩ = false := by
  simp [World.cell?, World.frozen?, h]

theorem tset0 {v : World} {p : Nat} {T : TypeId} {a b c u : Value} (h : v.heap[p]? = some (.cells #[a, b, c] T (0, 0))) : (v.setCell ⟨p, 0, none⟩ u).heap[p]? = some (.cells #[u, b, c] T (0, 0)) := by
  simp [World.setCell, Array.getElem?_modify, h]

theorem tset1 {v : World} {p : Nat} {T : TypeId} {a b c u : Value} (h : v.heap[p]? = some (.cells #[a, b, c] T (0, 0))) : (v.setCell ⟨p, 1, none⟩ u).heap[p]? = some (.cells #[a, u, c] T (0, 0)) := by
  simp [World.setCell, Array.getElem?_modify, h]

theorem tset2 {v : World} {p : Nat} {T : TypeId} {a b c u : Value} (h : v.heap[p]? = some (.cells #[a, b, c] T (0, 0))) : (v.setCell ⟨p, 2, none⟩ u).heap[p]? = some (.cells #[a, b, u] T (0, 0)) := by
  simp [World.setCell, Array.getElem?_modify, h]

theorem gb3 (v : World) (g : Nat) (x y z : Value) : v.grownBy (((v.setCell ⟨g, 0, none⟩ x).setCell ⟨g, 1, none⟩ y).setCell ⟨g, 2, none⟩ z) (some g) :=
  gb_set (gb_set (gb_set (gb_refl v (some g)) 0 x) 1 y) 2 z

theorem bel3 {B : Nat} {a w : World} {g : Nat} (h : Below B a w) (hg : B ≤ g) (x y z : Value) : Below B a (((w.setCell ⟨g, 0, none⟩ x).setCell ⟨g, 1, none⟩ y).setCell ⟨g, 2, none⟩ z) :=
  ((h.setCell (p := ⟨g, 0, none⟩) hg x).setCell (p := ⟨g, 1, none⟩) hg y).setCell (p := ⟨g, 2, none⟩) hg z

theorem own_low {e : TypeId} {size : Nat} {w : World} {base base' n : Nat} {v : Value} {cs : List Value} (h : w.ownsRow base e size v n cs) (hb : base' ≤ base) : w.ownsRow base' e size v n cs := by
  obtain ⟨h1, h2⟩ := h
  refine ⟨h1, ?_⟩
  rcases h2 with h2 | ⟨g, cap, cur, h2, hb', r⟩
  · exact .inl h2
  · exact .inr ⟨g, cap, cur, h2, by omega, r⟩

/-- A row of one's own is not in a block below its base. -/
theorem own_gb {e : TypeId} {size : Nat} {w w' : World} {base n r : Nat} {v : Value} {cs : List Value} (h : w.ownsRow base e size v n cs) (hg : w.grownBy w' (some r)) (hr : r < base) : w'.ownsRow base e size v n cs := by
  refine h.kept hg ?_
  rcases h.2 with ⟨rfl, _⟩ | ⟨g, cap, cur, rfl, hb', _⟩
  · exact .inl rfl
  · refine .inr ?_
    simp [Value.ownBlock]
    omega

theorem own_below {e : TypeId} {size : Nat} {w w' : World} {base n : Nat} {v : Value} {cs : List Value} (h : w.ownsRow base e size v n cs) (hb : Below w.heap.size w w') : w'.ownsRow base e size v n cs := by
  obtain ⟨h1, h2⟩ := h
  refine ⟨h1, ?_⟩
  rcases h2 with h2 | ⟨g, cap, cur, h2, hb', hg, r⟩
  · exact .inl h2
  · refine .inr ⟨g, cap, cur, h2, hb', ?_, r⟩
    exact heap_keep hg hb (Array.getElem?_eq_some_iff.1 hg).1

/-- append onto a row of one's own, nil or not, of a row that is there. -/
theorem wp_append_v {P : Program} (w : World) {o : Oper} {a : Act} {K : Act → World → Prop} {Q : Exit → Act → World → Prop} (s x : Operand) (t : TypeId)
    (ho : o.op = .call { callee := .builtin .append, args := #[s, x], argTypes := #[t, t] }) (e : TypeId) (ht : P.underlying t = some (.slice e)) (z : Value) (size bytes : Nat)
    (hi : (P.info? e).map (fun i => (i.zero, i.size, i.bytes)) = some (some z, size, bytes)) (hzs : z.cells.size = size) (hsz : 0 < size)
    (base n : Nat) (v : Value) (cs : List Value) (hs : a.eval s = v) (hown : w.ownsRow base e size v n cs)
    (b off m c : Nat) (ys : List Value) (hx : a.eval x = .slice (some ⟨b, off, none⟩) m c) (hm : 0 < m) (hy : RowC w (some ⟨b, off, none⟩) m size ys) (h1 : ∀ u ∈ ys, u.oneCell' = true)
    (hbd : (n + m) * bytes ≤ 140737488355328) (hbd' : n + m ≤ 9223372036854775807)
    (hbw : base ≤ w.heap.size) (B : Nat) (W : World) (hb : Below B W w) (hB : B ≤ base)
    (h : ∀ g' cap' w', w'.ownsRow base e size (.slice (some ⟨g', 0, none⟩) (n + m) cap') (n + m) (cs ++ ys) → Below B W w' → K (a.put o.dst (.slice (some ⟨g', 0, none⟩) (n + m) cap')) w') : o.wp P a w K Q := by
  obtain ⟨i0, hi, hz0, hz1, hz2⟩ := info_parts hi
  refine wp_append_own w s x t ho base e i0 z size bytes ht hi hz0 hz1 hz2 hzs hsz v n _ hs hown ⟨b, off, none⟩ m c ys hx hy.1 (src_row hy) h1 (by unfold maxLen; omega) hbd (by omega) ?_
  intro v' w' h1 h2 h3
  have hbl : Below B W w' := hb.grown h2 (by omega) (fun k hk => by have := (hown.lt k hk).1; omega)
  rcases h1.2 with ⟨e1, e2⟩ | ⟨g, cap, cur, e1, r⟩
  · omega
  · subst e1
    exact h g cap w' h1 hbl

/-- .. at a list of operations. -/
theorem append_v {P : Program} (w : World) {ops : Array Oper} {rest : List Oper} {o : Oper} {a : Act} {Q : Exit → Act → World → Prop} (hgd : o.guard = none) (s x : Operand) (t : TypeId)
    (ho : o.op = .call { callee := .builtin .append, args := #[s, x], argTypes := #[t, t] }) (e : TypeId) (ht : P.underlying t = some (.slice e)) (z : Value) (size bytes : Nat)
    (hi : (P.info? e).map (fun i => (i.zero, i.size, i.bytes)) = some (some z, size, bytes)) (hzs : z.cells.size = size) (hsz : 0 < size)
    (base n : Nat) (v : Value) (cs : List Value) (hs : a.eval s = v) (hown : w.ownsRow base e size v n cs)
    (b off m c : Nat) (ys : List Value) (hx : a.eval x = .slice (some ⟨b, off, none⟩) m c) (hm : 0 < m) (hy : RowC w (some ⟨b, off, none⟩) m size ys) (h1 : ∀ u ∈ ys, u.oneCell' = true)
    (hbd : (n + m) * bytes ≤ 140737488355328) (hbd' : n + m ≤ 9223372036854775807)
    (hbw : base ≤ w.heap.size) (B : Nat) (W : World) (hb : Below B W w) (hB : B ≤ base)
    (h : ∀ g' cap' w', w'.ownsRow base e size (.slice (some ⟨g', 0, none⟩) (n + m) cap') (n + m) (cs ++ ys) → Below B W w' → wpList P ops Q rest (a.put o.dst (.slice (some ⟨g', 0, none⟩) (n + m) cap')) w') : wpList P ops Q (o :: rest) a w :=
  wpList_plain hgd fun _ hK => wp_append_v w s x t ho e ht z size bytes hi hzs hsz base n v cs hs hown b off m c ys hx hm hy h1 hbd hbd' hbw B W hb hB fun g' cap' w' h2 h3 => hK _ _ (h g' cap' w' h2 h3)

theorem own_drew {e : TypeId} {size : Nat} {w : World} {base n : Nat} {v : Value} {cs : List Value} (h : w.ownsRow base e size v n cs) : w.drew.ownsRow base e size v n cs := h

/-- The first m cells of a block. -/
def CurAt (e : TypeId) (w : World) (g m : Nat) (cs : List Value) : Prop := cs.length = m ∧ ∃ cur, w.heap[g]? = some (.cells cur e (0, 0)) ∧ cur.toList.take m = cs

theorem CurAt.lt {e : TypeId} {w : World} {g m : Nat} {cs : List Value} (h : CurAt e w g m cs) : g < w.heap.size := by
  obtain ⟨_, cur, h2, _⟩ := h
  exact (Array.getElem?_eq_some_iff.1 h2).1

theorem CurAt.cell {e : TypeId} {w : World} {g m : Nat} {cs : List Value} (h : CurAt e w g m cs) (j : Nat) (u : Value) (hj : cs[j]? = some u) : w.cell? ⟨g, j, none⟩ = some u := by
  obtain ⟨h1, cur, h2, h3⟩ := h
  subst h3
  rw [List.getElem?_take] at hj
  split at hj
  · simp only [World.cell?, h2]
    simpa using hj
  · cases hj

theorem CurAt.free {e : TypeId} {w : World} {g m : Nat} {cs : List Value} (h : CurAt e w g m cs) (j : Nat) : w.frozen? ⟨g, j, none⟩ = false := by
  obtain ⟨h1, cur, h2, h3⟩ := h
  simp [World.frozen?, h2]

theorem CurAt.store {e : TypeId} {w : World} {g m : Nat} {cs : List Value} (h : CurAt e w g m cs) (j : Nat) (u : Value) : CurAt e (w.setCell ⟨g, j, none⟩ u) g m (cs.set j u) := by
  obtain ⟨h1, cur, h2, h3⟩ := h
  refine ⟨by simpa using h1, cur.setIfInBounds j u, by simp [World.setCell, Array.getElem?_modify, h2], ?_⟩
  subst h3
  rw [Array.toList_setIfInBounds, List.take_set]

theorem CurAt.gb {e : TypeId} {w w' : World} {g m r : Nat} {cs : List Value} (h : CurAt e w g m cs) (hg : w.grownBy w' (some r)) (hne : g ≠ r) : CurAt e w' g m cs := by
  obtain ⟨h1, cur, h2, h3⟩ := h
  exact ⟨h1, cur, heap_gb h2 hg hne, h3⟩

theorem CurAt.of_own {e : TypeId} {size : Nat} {w : World} {base g n cap : Nat} {cs : List Value} (h : w.ownsRow base e size (.slice (some ⟨g, 0, none⟩) n cap) n cs) : CurAt e w g (n * size) cs ∧ base ≤ g := by
  obtain ⟨h1, h2⟩ := h
  rcases h2 with ⟨h2, _⟩ | ⟨g', cap', cur, h2, hb, hg, _, _, _, ht⟩
  · cases h2
  · cases h2
    exact ⟨⟨h1, cur, hg, ht⟩, hb⟩

theorem row_own {e : TypeId} {size : Nat} {w : World} {base n : Nat} {a : Option Addr} {cap : Nat} {cs : List Value} (h : w.ownsRow base e size (.slice a n cap) n cs) : RowC w a n size cs := by
  cases a with
  | none =>
    obtain ⟨h1, h2⟩ := h
    rcases h2 with ⟨_, h2⟩ | ⟨g', cap', cur, h2, _⟩
    · subst h2
      exact ⟨h1, .inl rfl⟩
    · cases h2
  | some q =>
    have hq : q = ⟨q.block, 0, none⟩ := by
      obtain ⟨h1, h2⟩ := h
      rcases h2 with ⟨h2, _⟩ | ⟨g', cap', cur, h2, _⟩
      · cases h2
      · cases h2; rfl
    rw [hq] at h ⊢
    have := CurAt.of_own h
    refine ⟨h.1, .inr ⟨q.block, 0, rfl, this.1.lt, fun i u hu => ?_⟩⟩
    rw [Nat.zero_add]
    exact this.1.cell i u hu

theorem own_at {e : TypeId} {size : Nat} {w : World} {base n cap : Nat} {q : Addr} {cs : List Value} (h : w.ownsRow base e size (.slice (some q) n cap) n cs) : q = ⟨q.block, 0, none⟩ ∧ base ≤ q.block ∧ q.block < w.heap.size := by
  rcases h.2 with ⟨h2, _⟩ | ⟨g', cap', cur, h2, hb, hg, _⟩
  · cases h2
  · cases h2
    exact ⟨rfl, hb, (Array.getElem?_eq_some_iff.1 hg).1⟩

theorem own_nil {e : TypeId} {size : Nat} {w : World} {base n cap : Nat} {cs : List Value} (h : w.ownsRow base e size (.slice none n cap) n cs) : n = 0 := by
  rcases h.2 with ⟨_, h2⟩ | ⟨g', cap', cur, h2, _⟩
  · exact h2
  · cases h2

theorem gb_trans {a b c : World} {r : Option Nat} (h : a.grownBy b r) (k : b.grownBy c r) : a.grownBy c r :=
  ⟨k.os.trans h.os, k.tape.trans h.tape, k.output.trans h.output, Nat.le_trans h.size k.size, fun i hi hn => (k.block i (Nat.lt_of_lt_of_le hi h.size) hn).trans (h.block i hi hn)⟩

theorem two_put {v : World} {p : Nat} {T : TypeId} {a b x y : Value} (h : v.heap[p]? = some (.cells #[a, b] T (0, 0))) : ((v.setCell ⟨p, 0, none⟩ x).setCell ⟨p, 1, none⟩ y).heap[p]? = some (.cells #[x, y] T (0, 0)) := by
  simp [World.setCell, Array.getElem?_modify, h]

theorem hid_keep {w w' : World} {b : Nat} {o : Obj} (h : Hid (w.heap[b]? = some o)) (n : Below w.heap.size w w') : Hid (w'.heap[b]? = some o) := heap_keep h.out n (Array.getElem?_eq_some_iff.1 h.out).1

end Go.Proofs.Ythekickjjaleaab
