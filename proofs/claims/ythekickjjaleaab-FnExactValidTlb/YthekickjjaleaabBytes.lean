/- Rows of bytes in memory: what a slice of bytes reads as, and what a block of the call's own holds. No program is named here. -/
import Derived.WalkKit
import Derived.OpenShut
namespace Go.Proofs.Ythekickjjaleaab
open Go.RowKit

/-- The slice at 'a' of length 'len' reads as the numbers 'zs', each a byte. -/
def Byt (w : World) (a : Option Addr) (len : Nat) (zs : List Int) : Prop :=
  zs.length = len ∧ (∀ i : Nat, 0 ≤ zs[i]?.getD 0 ∧ zs[i]?.getD 0 ≤ 255) ∧
  (len = 0 ∨ ∃ b off, a = some ⟨b, off, none⟩ ∧ b < w.heap.size ∧ ∀ i, i < len → w.cell? ⟨b, off + i, none⟩ = some (.int .u8 (zs[i]?.getD 0)))

/-- Block 'g' holds just the numbers 'zs'. -/
def Blk (e : TypeId) (w : World) (g : Nat) (zs : List Int) : Prop :=
  w.heap[g]? = some (.cells (zs.map (Value.int .u8)).toArray e (0, 0))

theorem Byt.keep {w w' : World} {a : Option Addr} {len : Nat} {zs : List Int} (h : Byt w a len zs) (hb : Below w.heap.size w w') : Byt w' a len zs := by
  obtain ⟨h1, h2, h3⟩ := h
  refine ⟨h1, h2, ?_⟩
  rcases h3 with h3 | ⟨b, off, rfl, hlt, hc⟩
  · exact .inl h3
  · exact .inr ⟨b, off, rfl, Nat.lt_of_lt_of_le hlt hb.size, fun i hi => (hb.cell (p := ⟨b, off + i, none⟩) hlt).trans (hc i hi)⟩

theorem Blk.lt {e : TypeId} {w : World} {g : Nat} {zs : List Int} (h : Blk e w g zs) : g < w.heap.size := by
  unfold Blk at h
  exact (Array.getElem?_eq_some_iff.1 h).1

theorem Blk.keep {e : TypeId} {B : Nat} {w w' : World} {g : Nat} {zs : List Int} (h : Blk e w g zs) (hb : Below B w w') (hg : g < B) : Blk e w' g zs := by
  unfold Blk at *
  rw [hb.block g hg, h]

theorem Blk.gb {e : TypeId} {w w' : World} {g r : Nat} {zs : List Int} (h : Blk e w g zs) (hg : w.grownBy w' (some r)) (hne : g ≠ r) : Blk e w' g zs := by
  have hlt := h.lt
  unfold Blk at *
  rw [hg.block g hlt (by simpa using hne), h]

theorem Below.gb {B : Nat} {a w w' : World} {r : Nat} (h : Below B a w) (hg : w.grownBy w' (some r)) (hB : B ≤ r) (hr : r < w.heap.size) : Below B a w' :=
  h.grown hg (by omega) (fun k hk => by cases hk; exact hB)

theorem Blk.cell {e : TypeId} {w : World} {g : Nat} {zs : List Int} (h : Blk e w g zs) (i : Nat) (hi : i < zs.length) : w.cell? ⟨g, i, none⟩ = some (.int .u8 (zs[i]?.getD 0)) := by
  unfold Blk at h
  simp [World.cell?, h, hi]

theorem Blk.free {e : TypeId} {w : World} {g : Nat} {zs : List Int} (h : Blk e w g zs) (i : Nat) : w.frozen? ⟨g, i, none⟩ = false := by
  unfold Blk at h
  simp [World.frozen?, h]

theorem Blk.byt {e : TypeId} {w : World} {g : Nat} {zs : List Int} (h : Blk e w g zs) (hz : ∀ i : Nat, 0 ≤ zs[i]?.getD 0 ∧ zs[i]?.getD 0 ≤ 255) : Byt w (some ⟨g, 0, none⟩) zs.length zs :=
  ⟨rfl, hz, .inr ⟨g, 0, rfl, h.lt, fun i hi => by simpa using h.cell i hi⟩⟩

/-- A store into such a block. -/
theorem Blk.store {e : TypeId} {w : World} {g : Nat} {zs : List Int} (h : Blk e w g zs) (i : Nat) (z : Int) : Blk e (w.setCell ⟨g, i, none⟩ (.int .u8 z)) g (zs.set i z) := by
  have hlt := h.lt
  unfold Blk at *
  simp [World.setCell, Array.getElem?_modify, h]

theorem Blk.of_own {e : TypeId} {w : World} {base g n : Nat} {zs : List Int} {cap : Nat} (h : w.ownsRow base e 1 (.slice (some ⟨g, 0, none⟩) n cap) n (zs.map (Value.int .u8))) (hc : cap = n) : Blk e w g zs := by
  obtain ⟨h1, h2⟩ := h
  rcases h2 with ⟨h2, _⟩ | ⟨g', cap', cur, h2, hb, hh, hn, hm, hs, ht⟩
  · simp at h2
  · simp at h2
    obtain ⟨rfl, rfl⟩ := h2
    unfold Blk
    rw [hh]
    have : cur = (zs.map (Value.int .u8)).toArray := by
      rw [← ht, List.take_of_length_le (by simp; omega)]
    rw [this]

/-- All old cells and marks read as before: two rules for the walk. -/
theorem bcell {W w1 : World} (hb : Below W.heap.size W w1) : (∀ b o, b < W.heap.size → w1.cell? ⟨b, o, none⟩ = W.cell? ⟨b, o, none⟩) ∧ (∀ b o, b < W.heap.size → w1.frozen? ⟨b, o, none⟩ = W.frozen? ⟨b, o, none⟩) :=
  ⟨fun b o h => hb.cell (p := ⟨b, o, none⟩) h, fun b o h => hb.frozen (p := ⟨b, o, none⟩) h⟩

/-- A new block under a name of its own. -/
theorem alloc_facts (v : World) (cs : Array Value) (t : TypeId) : v.heap.size < (v.alloc (.cells cs t)).heap.size ∧ (∀ i, (v.alloc (.cells cs t)).cell? ⟨v.heap.size, i, none⟩ = cs[i]?) ∧ Below v.heap.size v (v.alloc (.cells cs t)) :=
  ⟨by simp, fun i => World.cell?_alloc_at _ _ _ _ rfl, (Below.refl _ _).alloc (Nat.le_refl _) _⟩

/-- What is below in two steps. -/
theorem Below.step {B : Nat} {a b c : World} (h : Below B a b) (k : Below b.heap.size b c) (hB : B ≤ a.heap.size) : Below B a c := h.trans (k.mono (Nat.le_trans hB h.size))

theorem Below.cell2 {w w' : World} (h : Below w.heap.size w w') {b o : Nat} {x : Option Value} (hc : w.cell? ⟨b, o, none⟩ = x) (hb : b < w.heap.size) : w'.cell? ⟨b, o, none⟩ = x := (h.cell (p := ⟨b, o, none⟩) hb).trans hc

/-- A row of the call's own, of bytes. -/
def OwnB (e : TypeId) (w : World) (base g n cap : Nat) (zs : List Int) : Prop :=
  w.ownsRow base e 1 (.slice (some ⟨g, 0, none⟩) n cap) n (zs.map (Value.int .u8))

theorem OwnB.new (e : TypeId) (w : World) (zs : List Int) (n : Nat) (hn : zs.length = n) (hm : n ≤ maxLen) : OwnB e (w.alloc (.cells (zs.map (Value.int .u8)).toArray e)) w.heap.size w.heap.size n n zs :=
  ⟨by simp [hn], .inr ⟨w.heap.size, n, _, rfl, Nat.le_refl _, heap_alloc_new w _, Nat.le_refl _, hm, by simp [hn], List.take_of_length_le (by simp [hn])⟩⟩

theorem OwnB.facts {e : TypeId} {w : World} {base g n cap : Nat} {zs : List Int} (h : OwnB e w base g n cap zs) :
    zs.length = n ∧ base ≤ g ∧ g < w.heap.size ∧ n ≤ cap ∧ cap ≤ maxLen := by
  obtain ⟨h1, h2⟩ := h
  rcases h2 with ⟨h2, _⟩ | ⟨g', cap', cur, h2, hb, hh, hn, hm, hs, ht⟩
  · simp at h2
  · simp at h2
    obtain ⟨rfl, rfl⟩ := h2
    exact ⟨by simpa using h1, hb, (Array.getElem?_eq_some_iff.1 hh).1, hn, hm⟩

theorem OwnB.cell {e : TypeId} {w : World} {base g n cap : Nat} {zs : List Int} (h : OwnB e w base g n cap zs) (i : Nat) (hi : i < n) : w.cell? ⟨g, i, none⟩ = some (.int .u8 (zs[i]?.getD 0)) := by
  have hl := h.facts.1
  have := World.ownsRow.cellAt h i (by omega)
  rw [this]
  simp [show i < zs.length by omega]

theorem OwnB.byt {e : TypeId} {w : World} {base g n cap : Nat} {zs : List Int} (h : OwnB e w base g n cap zs) (hz : ∀ i : Nat, 0 ≤ zs[i]?.getD 0 ∧ zs[i]?.getD 0 ≤ 255) : Byt w (some ⟨g, 0, none⟩) n zs :=
  ⟨h.facts.1, hz, .inr ⟨g, 0, rfl, h.facts.2.2.1, fun i hi => by simpa using h.cell i hi⟩⟩

theorem OwnB.keep {e : TypeId} {B : Nat} {w w' : World} {base g n cap : Nat} {zs : List Int} (h : OwnB e w base g n cap zs) (hb : Below B w w') (hg : g < B) : OwnB e w' base g n cap zs := by
  obtain ⟨h1, h2⟩ := h
  refine ⟨h1, ?_⟩
  rcases h2 with ⟨h2, _⟩ | ⟨g', cap', cur, h2, hb', hh, r⟩
  · simp at h2
  · have hh' := h2
    simp at hh'
    obtain ⟨rfl, rfl⟩ := hh'
    exact .inr ⟨_, _, cur, h2, hb', by rw [hb.block _ hg]; exact hh, r⟩

theorem OwnB.low {e : TypeId} {w : World} {base base' g n cap : Nat} {zs : List Int} (h : OwnB e w base g n cap zs) (hb : base' ≤ base) : OwnB e w base' g n cap zs := by
  obtain ⟨h1, h2⟩ := h
  refine ⟨h1, ?_⟩
  rcases h2 with ⟨h2, _⟩ | ⟨g', cap', cur, h2, hb', r⟩
  · simp at h2
  · exact .inr ⟨g', cap', cur, h2, by omega, r⟩

/-- What an append leaves, where the slice was not nil. -/
theorem OwnB.of_append {e : TypeId} {w' : World} {base g n cap m : Nat} {v' : Value} {xs ys : List Int} (h : w'.ownsRow base e 1 v' (n + m) (xs.map (Value.int .u8) ++ ys.map (Value.int .u8)))
    (hv : v' = .slice none 0 0 ↔ (Value.slice (some ⟨g, 0, none⟩) n cap) = .slice none 0 0 ∧ m = 0) : ∃ g' cap', v' = .slice (some ⟨g', 0, none⟩) (n + m) cap' ∧ OwnB e w' base g' (n + m) cap' (xs ++ ys) := by
  rcases h.2 with ⟨h2, _⟩ | ⟨g', cap', cur, h2, r⟩
  · have := hv.1 h2
    simp at this
  · refine ⟨g', cap', h2, ?_⟩
    subst h2
    unfold OwnB
    rw [List.map_append]
    exact h

theorem OwnB.grown {e : TypeId} {B : Nat} {a w w' : World} {base g n cap : Nat} {zs : List Int} (h : Below B a w) (o : OwnB e w base g n cap zs) (hg : w.grownBy w' (Value.slice (some ⟨g, 0, none⟩) n cap).ownBlock) (hB : B ≤ base) : Below B a w' := by
  have f := o.facts
  exact h.grown hg (by omega) (fun k hk => by cases hk; show B ≤ g; omega)

theorem ret_sl {a : Option Addr} {n m c : Nat} (h : n = m) : Ending.returned (.slice a n c) = .returned (.slice a m c) := by rw [h]

theorem one_u8 (zs : List Int) : ∀ u ∈ zs.map (Value.int .u8), u.oneCell' = true := by
  intro u hu
  simp at hu
  obtain ⟨z, _, rfl⟩ := hu
  rfl

/-- The cells of a source of bytes, as the laws of append ask for them. -/
theorem src_u8 {w : World} {b off n : Nat} {zs : List Int} (h : Byt w (some ⟨b, off, none⟩) n zs) : ∀ j u, (zs.map (Value.int .u8))[j]? = some u → w.cell? (Addr.add ⟨b, off, none⟩ j) = some u := by
  intro j u hu
  obtain ⟨h1, _, h3⟩ := h
  simp at hu
  obtain ⟨z, hz, rfl⟩ := hu
  have hj : j < zs.length := (List.getElem?_eq_some_iff.1 hz).1
  rcases h3 with h3 | ⟨b', off', e, _, hc⟩
  · omega
  · simp at e
    obtain ⟨rfl, rfl⟩ := e
    have := hc j (by omega)
    have e : Addr.add ⟨b, off, none⟩ j = ⟨b, off + j, none⟩ := by
      unfold Addr.add
      split
      · next h => subst h; rfl
      · rfl
    rw [e, this, hz]
    rfl

/-- append onto a row of bytes of the call's own. -/
theorem append_b {P : Program} (w : World) {ops : Array Oper} {rest : List Oper} {o : Oper} {a : Act} {Q : Exit → Act → World → Prop} (hgd : o.guard = none) (s x : Operand) (t : TypeId)
    (ho : o.op = .call { callee := .builtin .append, args := #[s, x], argTypes := #[t, t] }) (e : TypeId) (ht : P.underlying t = some (.slice e))
    (hi : (P.info? e).map (fun i => (i.zero, i.size, i.bytes)) = some (some (.int .u8 0), 1, 1))
    (base g n cap : Nat) (zs : List Int) (hs : a.eval s = .slice (some ⟨g, 0, none⟩) n cap) (hown : OwnB e w base g n cap zs)
    (b off m c : Nat) (ys : List Int) (hx : a.eval x = .slice (some ⟨b, off, none⟩) m c) (hy : Byt w (some ⟨b, off, none⟩) m ys) (hbd : n + m ≤ 2147483648)
    (B : Nat) (W : World) (hb : Below B W w) (hB : B ≤ base)
    (h : ∀ g' cap' w', OwnB e w' base g' (n + m) cap' (zs ++ ys) → Below B W w' → wpList P ops Q rest (a.put o.dst (.slice (some ⟨g', 0, none⟩) (n + m) cap')) w') : wpList P ops Q (o :: rest) a w := by
  obtain ⟨i0, hi, hz0, hz1, hz2⟩ := info_parts hi
  have f := hown.facts
  refine wpList_append_own w hgd s x t ho base e i0 (.int .u8 0) 1 1 ht hi hz0 hz1 hz2 rfl (by decide) _ n _ hs hown ⟨b, off, none⟩ m c (ys.map (Value.int .u8)) hx (by simp [hy.1]) (src_u8 hy) (one_u8 _) (by unfold maxLen; omega) (by omega) (by omega) ?_
  intro v' w' h1 h2 h3
  obtain ⟨g', cap', rfl, o4⟩ := OwnB.of_append h1 h3
  exact h g' cap' w' o4 (OwnB.grown hb hown h2 hB)

/-- A slice of bytes that came in, as the row's shell opens it. -/
theorem Byt.of_row {w : World} {a : Option Addr} {len cap : Nat} {zs : List Int}
    (h : (a = none ∧ len = 0 ∧ cap = 0 ∧ zs = []) ∨
      ∃ x, a = some x ∧ len ≤ cap ∧ cap ≤ maxLen ∧ zs.length = cap ∧ (∀ i, i < zs.length → w.cell? (x.add i) = some (.int .u8 (zs.getD i 0))) ∧ ∀ n ∈ zs, (Lit.int .u8 n).wf = true) :
    Byt w a len (zs.take len) ∧ len ≤ cap ∧ cap ≤ 9223372036854775807 := by
  rcases h with ⟨rfl, rfl, rfl, rfl⟩ | ⟨x, rfl, hl, hm, hz, hcell, hwz⟩
  · exact ⟨⟨rfl, fun i => by simp, .inl rfl⟩, by omega, by omega⟩
  · refine ⟨⟨by simp; omega, fun i => ?_, ?_⟩, hl, by unfold maxLen at hm; omega⟩
    · by_cases hi : i < len
      · have := bounds_u8 (hwz (zs[i]'(by omega)) (List.getElem_mem _))
        simp [hi, show i < zs.length by omega]
        omega
      · simp [List.getElem?_take, hi]
    · by_cases h0 : len = 0
      · exact .inl h0
      · obtain ⟨b, off, spot⟩ := x
        have hc := hcell 0 (by omega)
        have hspot : spot = none := by simpa [Addr.add] using World.cell?_spot hc
        subst hspot
        refine .inr ⟨b, off, rfl, ?_, fun i hi => ?_⟩
        · have hc0 : w.cell? ⟨b, off, none⟩ = some (.int .u8 (zs.getD 0 0)) := by simpa [Addr.add] using hc
          unfold World.cell? at hc0
          split at hc0
          · next he => exact (Array.getElem?_eq_some_iff.1 he).1
          · cases hc0
        · have hci := hcell i (by omega)
          have e : Addr.add ⟨b, off, none⟩ i = ⟨b, off + i, none⟩ := by
            unfold Addr.add
            split
            · next h => subst h; rfl
            · rfl
          rw [e] at hci
          simpa [List.getElem?_take, hi] using hci

end Go.Proofs.Ythekickjjaleaab
