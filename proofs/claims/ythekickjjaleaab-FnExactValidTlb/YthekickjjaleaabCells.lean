/- Rows of cells in memory, of whatever element: structs too. No program is named here. -/
import Derived.Test.YthekickjjaleaabRows1
import Derived.Deep.RegionHeld3
import Derived.Deep.DrawnRows
namespace Go.Proofs.Ythekickjjaleaab
open Go.RowKit
set_option linter.unusedVariables false

/-- The slice at 'a' of n elements, 'size' cells each, holds the cells cs. -/
def RowC (w : World) (a : Option Addr) (n size : Nat) (cs : List Value) : Prop :=
  cs.length = n * size ∧ (n = 0 ∨ ∃ b off, a = some ⟨b, off, none⟩ ∧ b < w.heap.size ∧ ∀ i v, cs[i]? = some v → w.cell? ⟨b, off + i, none⟩ = some v)

theorem RowC.keep {w w' : World} {a : Option Addr} {n size : Nat} {cs : List Value} (h : RowC w a n size cs) (hb : Below w.heap.size w w') : RowC w' a n size cs := by
  obtain ⟨h1, h3⟩ := h
  refine ⟨h1, ?_⟩
  rcases h3 with h3 | ⟨b, off, rfl, hlt, hc⟩
  · exact .inl h3
  · exact .inr ⟨b, off, rfl, Nat.lt_of_lt_of_le hlt hb.size, fun i v hi => (hb.cell (p := ⟨b, off + i, none⟩) hlt).trans (hc i v hi)⟩

theorem RowC.gb {w w' : World} {b off n size r : Nat} {cs : List Value} (h : RowC w (some ⟨b, off, none⟩) n size cs) (hg : w.grownBy w' (some r)) (hne : b ≠ r) : RowC w' (some ⟨b, off, none⟩) n size cs := by
  obtain ⟨h1, h3⟩ := h
  refine ⟨h1, ?_⟩
  rcases h3 with h3 | ⟨b', off', e, hlt, hc⟩
  · exact .inl h3
  · simp at e
    obtain ⟨rfl, rfl⟩ := e
    exact .inr ⟨b, off, rfl, Nat.lt_of_lt_of_le hlt hg.size, fun i v hi => (World.cell?_of_block (hg.block b hlt (by simpa using hne))).trans (hc i v hi)⟩

theorem RowC.gb' {w w' : World} {a : Option Addr} {n size r : Nat} {cs : List Value} (h : RowC w a n size cs) (hg : w.grownBy w' (some r)) (hne : ∀ q, a = some q → q.block ≠ r) : RowC w' a n size cs := by
  obtain ⟨h1, h3⟩ := h
  refine ⟨h1, ?_⟩
  rcases h3 with h3 | ⟨b, off, rfl, hlt, hc⟩
  · exact .inl h3
  · have hne' : b ≠ r := hne ⟨b, off, none⟩ rfl
    exact .inr ⟨b, off, rfl, Nat.lt_of_lt_of_le hlt hg.size, fun i v hi => (World.cell?_of_block (hg.block b hlt (by simpa using hne'))).trans (hc i v hi)⟩

theorem heap_gb {w w' : World} {g r : Nat} {o : Obj} (h : w.heap[g]? = some o) (hg : w.grownBy w' (some r)) (hne : g ≠ r) : w'.heap[g]? = some o := by
  rw [hg.block g (Array.getElem?_eq_some_iff.1 h).1 (by simpa using hne), h]

theorem RowC.nil (w : World) (a : Option Addr) (size : Nat) : RowC w a 0 size [] := ⟨by simp, .inl rfl⟩

theorem Below.froz2 {w w' : World} (h : Below w.heap.size w w') {b o : Nat} {x : Bool} (hc : w.frozen? ⟨b, o, none⟩ = x) (hb : b < w.heap.size) : w'.frozen? ⟨b, o, none⟩ = x := (h.frozen (p := ⟨b, o, none⟩) hb).trans hc

/-- A row of the call's own. -/
def OwnC (e : TypeId) (size : Nat) (w : World) (base g n cap : Nat) (cs : List Value) : Prop :=
  w.ownsRow base e size (.slice (some ⟨g, 0, none⟩) n cap) n cs

theorem OwnC.new (e : TypeId) (size : Nat) (w : World) (cs : List Value) (n : Nat) (hn : cs.length = n * size) (hm : n ≤ maxLen) : OwnC e size (w.alloc (.cells cs.toArray e)) w.heap.size w.heap.size n n cs :=
  ⟨hn, .inr ⟨w.heap.size, n, _, rfl, Nat.le_refl _, heap_alloc_new w _, Nat.le_refl _, hm, by simp [hn], List.take_of_length_le (by simp [hn])⟩⟩

theorem OwnC.facts {e : TypeId} {size : Nat} {w : World} {base g n cap : Nat} {cs : List Value} (h : OwnC e size w base g n cap cs) :
    cs.length = n * size ∧ base ≤ g ∧ g < w.heap.size ∧ n ≤ cap ∧ cap ≤ maxLen := by
  obtain ⟨h1, h2⟩ := h
  rcases h2 with ⟨h2, _⟩ | ⟨g', cap', cur, h2, hb, hh, hn, hm, hs, ht⟩
  · simp at h2
  · simp at h2
    obtain ⟨rfl, rfl⟩ := h2
    exact ⟨h1, hb, (Array.getElem?_eq_some_iff.1 hh).1, hn, hm⟩

theorem OwnC.row {e : TypeId} {size : Nat} {w : World} {base g n cap : Nat} {cs : List Value} (h : OwnC e size w base g n cap cs) : RowC w (some ⟨g, 0, none⟩) n size cs := by
  refine ⟨h.1, .inr ⟨g, 0, rfl, h.facts.2.2.1, fun i v hi => ?_⟩⟩
  have hl : i < cs.length := (List.getElem?_eq_some_iff.1 hi).1
  rw [Nat.zero_add, World.ownsRow.cellAt h i (by rw [← h.1]; exact hl), hi]

theorem OwnC.keep {e : TypeId} {size B : Nat} {w w' : World} {base g n cap : Nat} {cs : List Value} (h : OwnC e size w base g n cap cs) (hb : Below B w w') (hg : g < B) : OwnC e size w' base g n cap cs := by
  obtain ⟨h1, h2⟩ := h
  refine ⟨h1, ?_⟩
  rcases h2 with ⟨h2, _⟩ | ⟨g', cap', cur, h2, hb', hh, r⟩
  · simp at h2
  · have hh' := h2
    simp at hh'
    obtain ⟨rfl, rfl⟩ := hh'
    exact .inr ⟨_, _, cur, h2, hb', by rw [hb.block _ hg]; exact hh, r⟩

theorem OwnC.gb {e : TypeId} {size : Nat} {w w' : World} {base g n cap r : Nat} {cs : List Value} (h : OwnC e size w base g n cap cs) (hg : w.grownBy w' (some r)) (hne : g ≠ r) : OwnC e size w' base g n cap cs := by
  obtain ⟨h1, h2⟩ := h
  refine ⟨h1, ?_⟩
  rcases h2 with ⟨h2, _⟩ | ⟨g', cap', cur, h2, hb', hh, r'⟩
  · simp at h2
  · have hh' := h2
    simp at hh'
    obtain ⟨rfl, rfl⟩ := hh'
    exact .inr ⟨_, _, cur, h2, hb', by rw [hg.block _ (Array.getElem?_eq_some_iff.1 hh).1 (by simpa using hne)]; exact hh, r'⟩

theorem OwnC.low {e : TypeId} {size : Nat} {w : World} {base base' g n cap : Nat} {cs : List Value} (h : OwnC e size w base g n cap cs) (hb : base' ≤ base) : OwnC e size w base' g n cap cs := by
  obtain ⟨h1, h2⟩ := h
  refine ⟨h1, ?_⟩
  rcases h2 with ⟨h2, _⟩ | ⟨g', cap', cur, h2, hb', r⟩
  · simp at h2
  · exact .inr ⟨g', cap', cur, h2, by omega, r⟩

theorem OwnC.of_append {e : TypeId} {size : Nat} {w' : World} {base g n cap m : Nat} {v' : Value} {cs : List Value} (h : w'.ownsRow base e size v' (n + m) cs)
    (hv : v' = .slice none 0 0 ↔ (Value.slice (some ⟨g, 0, none⟩) n cap) = .slice none 0 0 ∧ m = 0) : ∃ g' cap', v' = .slice (some ⟨g', 0, none⟩) (n + m) cap' ∧ OwnC e size w' base g' (n + m) cap' cs := by
  rcases h.2 with ⟨h2, _⟩ | ⟨g', cap', cur, h2, r⟩
  · have := hv.1 h2
    simp at this
  · refine ⟨g', cap', h2, ?_⟩
    subst h2
    exact h

theorem OwnC.grown {e : TypeId} {size B : Nat} {a w w' : World} {base g n cap : Nat} {cs : List Value} (h : Below B a w) (o : OwnC e size w base g n cap cs) (hg : w.grownBy w' (Value.slice (some ⟨g, 0, none⟩) n cap).ownBlock) (hB : B ≤ base) : Below B a w' := by
  have f := o.facts
  exact h.grown hg (by omega) (fun k hk => by cases hk; show B ≤ g; omega)

theorem src_row {w : World} {b off n size : Nat} {cs : List Value} (h : RowC w (some ⟨b, off, none⟩) n size cs) : ∀ j u, cs[j]? = some u → w.cell? (Addr.add ⟨b, off, none⟩ j) = some u := by
  intro j u hu
  obtain ⟨h1, h3⟩ := h
  rcases h3 with h3 | ⟨b', off', e, _, hc⟩
  · subst h3
    simp at h1
    subst h1
    simp at hu
  · simp at e
    obtain ⟨rfl, rfl⟩ := e
    have e : Addr.add ⟨b, off, none⟩ j = ⟨b, off + j, none⟩ := by
      unfold Addr.add
      split
      · next h => subst h; rfl
      · rfl
    rw [e]
    exact hc j u hu

/-- append onto a row of the call's own, at the level of one operation; the source may be nil. -/
theorem wp_append_c {P : Program} (w : World) {o : Oper} {a : Act} {K : Act → World → Prop} {Q : Exit → Act → World → Prop} (s x : Operand) (t : TypeId)
    (ho : o.op = .call { callee := .builtin .append, args := #[s, x], argTypes := #[t, t] }) (e : TypeId) (ht : P.underlying t = some (.slice e)) (z : Value) (size bytes : Nat)
    (hi : (P.info? e).map (fun i => (i.zero, i.size, i.bytes)) = some (some z, size, bytes)) (hzs : z.cells.size = size) (hsz : 0 < size)
    (base g n cap : Nat) (cs : List Value) (hs : a.eval s = .slice (some ⟨g, 0, none⟩) n cap) (hown : OwnC e size w base g n cap cs)
    (src : Option Addr) (m c : Nat) (ys : List Value) (hx : a.eval x = .slice src m c) (hnil : src = none → m = 0 ∧ c = 0) (hspot : ∀ q, src = some q → q.spot = none) (hy : RowC w src m size ys) (h1 : ∀ u ∈ ys, u.oneCell' = true)
    (hbd : (n + m) * bytes ≤ 140737488355328) (hbd' : n + m ≤ 9223372036854775807)
    (B : Nat) (W : World) (hb : Below B W w) (hB : B ≤ base)
    (h : ∀ g' cap' w', OwnC e size w' base g' (n + m) cap' (cs ++ ys) → Below B W w' → K (a.put o.dst (.slice (some ⟨g', 0, none⟩) (n + m) cap')) w') : o.wp P a w K Q := by
  obtain ⟨i0, hi, hz0, hz1, hz2⟩ := info_parts hi
  have f := hown.facts
  cases src with
  | none =>
    obtain ⟨rfl, rfl⟩ := hnil rfl
    have hys : ys = [] := by have := hy.1; simpa using this
    subst hys
    have hrun := run_append_owned_none (P := P) (w := w) base t o.type e i0 size ht hi _ n cs hown
    unfold Oper.wp
    simp [execOp, ho, resolve, invoke, builtin, hs, hx, hrun, Result.andThen]
    have := h g cap w (by simpa using hown) hb
    simp only [Nat.add_zero] at this
    exact this
  | some q =>
    obtain ⟨b, off, spot⟩ := q
    have := hspot ⟨b, off, spot⟩ rfl
    simp at this
    subst this
    refine wp_append_own w s x t ho base e i0 z size bytes ht hi hz0 hz1 hz2 hzs hsz _ n _ hs hown ⟨b, off, none⟩ m c ys hx hy.1 (src_row hy) h1 (by unfold maxLen; omega) hbd (by omega) ?_
    intro v' w' h1 h2 h3
    obtain ⟨g', cap', rfl, o4⟩ := OwnC.of_append h1 h3
    exact h g' cap' w' o4 (OwnC.grown hb hown h2 hB)

/-- .. at a list of operations. -/
theorem append_c {P : Program} (w : World) {ops : Array Oper} {rest : List Oper} {o : Oper} {a : Act} {Q : Exit → Act → World → Prop} (hgd : o.guard = none) (s x : Operand) (t : TypeId)
    (ho : o.op = .call { callee := .builtin .append, args := #[s, x], argTypes := #[t, t] }) (e : TypeId) (ht : P.underlying t = some (.slice e)) (z : Value) (size bytes : Nat)
    (hi : (P.info? e).map (fun i => (i.zero, i.size, i.bytes)) = some (some z, size, bytes)) (hzs : z.cells.size = size) (hsz : 0 < size)
    (base g n cap : Nat) (cs : List Value) (hs : a.eval s = .slice (some ⟨g, 0, none⟩) n cap) (hown : OwnC e size w base g n cap cs)
    (src : Option Addr) (m c : Nat) (ys : List Value) (hx : a.eval x = .slice src m c) (hnil : src = none → m = 0 ∧ c = 0) (hspot : ∀ q, src = some q → q.spot = none) (hy : RowC w src m size ys) (h1 : ∀ u ∈ ys, u.oneCell' = true)
    (hbd : (n + m) * bytes ≤ 140737488355328) (hbd' : n + m ≤ 9223372036854775807)
    (B : Nat) (W : World) (hb : Below B W w) (hB : B ≤ base)
    (h : ∀ g' cap' w', OwnC e size w' base g' (n + m) cap' (cs ++ ys) → Below B W w' → wpList P ops Q rest (a.put o.dst (.slice (some ⟨g', 0, none⟩) (n + m) cap')) w') : wpList P ops Q (o :: rest) a w :=
  wpList_plain hgd fun _ hK => wp_append_c w s x t ho e ht z size bytes hi hzs hsz base g n cap cs hs hown src m c ys hx hnil hspot hy h1 hbd hbd' B W hb hB fun g' cap' w' h2 h3 => hK _ _ (h g' cap' w' h2 h3)

/-- .. as one step of a region that draws. -/
theorem step_append_c {P : Program} (w : World) {ops : Array Oper} {o : Oper} {a : Act} {K : Act → World → Prop} {Q : Exit → Act → World → Prop} {E : Prop} (hgd : o.guard = none) (s x : Operand) (t : TypeId)
    (ho : o.op = .call { callee := .builtin .append, args := #[s, x], argTypes := #[t, t] }) (e : TypeId) (ht : P.underlying t = some (.slice e)) (z : Value) (size bytes : Nat)
    (hi : (P.info? e).map (fun i => (i.zero, i.size, i.bytes)) = some (some z, size, bytes)) (hzs : z.cells.size = size) (hsz : 0 < size)
    (base g n cap : Nat) (cs : List Value) (hs : a.eval s = .slice (some ⟨g, 0, none⟩) n cap) (hown : OwnC e size w base g n cap cs)
    (src : Option Addr) (m c : Nat) (ys : List Value) (hx : a.eval x = .slice src m c) (hnil : src = none → m = 0 ∧ c = 0) (hspot : ∀ q, src = some q → q.spot = none) (hy : RowC w src m size ys) (h1 : ∀ u ∈ ys, u.oneCell' = true)
    (hbd : (n + m) * bytes ≤ 140737488355328) (hbd' : n + m ≤ 9223372036854775807)
    (B : Nat) (W : World) (hb : Below B W w) (hB : B ≤ base)
    (h : ∀ g' cap' w', OwnC e size w' base g' (n + m) cap' (cs ++ ys) → Below B W w' → K (a.put o.dst (.slice (some ⟨g', 0, none⟩) (n + m) cap')) w') :
    if Region.wanted o (yielded ops a.tmps) = true then Oper.wp P o a w K Q else E := by
  have hw : Region.wanted o (yielded ops a.tmps) = true := by simp [Region.wanted, hgd]
  rw [if_pos hw]
  exact wp_append_c w s x t ho e ht z size bytes hi hzs hsz base g n cap cs hs hown src m c ys hx hnil hspot hy h1 hbd hbd' B W hb hB h

end Go.Proofs.Ythekickjjaleaab
