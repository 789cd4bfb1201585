import Derived.WalkKit
import Derived.OpenShut
import Derived.Laws.BitsAllLaws
import Derived.Laws.AppendOwnNone
import Derived.Laws.CopyOwn
import Derived.Deep.QuietTactic
import Derived.BigQuiet
import Derived.WalkSmall
import Derived.Test.YthekickjjaleaacRows
import Derived.Deep.RegionHeld3
import Derived.Deep.DrawnRows
/- Rows of bytes in memory: what a slice of bytes reads as, and what a block of the call's own holds. No program is named here. -/
namespace Go.Proofs.Ythekickjjaleaac
open Go.RowKit

/-- The slice at 'a' of length 'len' reads as the numbers 'zs', each a byte. -/
def Byt (w : World) (a : Option Addr) (len : Nat) (zs : List Int) : Prop :=
  zs.length = len ∧ (∀ i : Nat, 0 ≤ zs[i]?.getD 0 ∧ zs[i]?.getD 0 ≤ 255) ∧
  (len = 0 ∨ ∃ b off, a = some ⟨b, off, none⟩ ∧ b < w.heap.size ∧ ∀ i, i < len → w.cell? ⟨b, off + i, none⟩ = some (.int .u8 (zs[i]?.getD 0)))

/-- Block 'g' holds just the numbers 'zs'. -/
def Blk (e : TypeId) (w : World) (g : Nat) (zs : List Int) : Prop :=
  w.heap[g]? = some (.cells (zs.map (Value.int .u8)).toArray e (0, 0))

theorem Byt.keep {w w' : World} {a : Option Addr} {len : Nat} {zs : List Int} (h : Byt w a len zs) (hb : Below w.heap.size w w') : Byt w' a len zs := by
  obtain ⟨h1, h2, h3⟩ := h
  refine ⟨h1, h2, ?_⟩
  rcases h3 with h3 | ⟨b, off, rfl, hlt, hc⟩
  · exact .inl h3
  · exact .inr ⟨b, off, rfl, Nat.lt_of_lt_of_le hlt hb.size, fun i hi => (hb.cell (p := ⟨b, off + i, none⟩) hlt).trans (hc i hi)⟩

theorem Blk.lt {e : TypeId} {w : World} {g : Nat} {zs : List Int} (h : Blk e w g zs) : g < w.heap.size := by
  unfold Blk at h
  exact (Array.getElem?_eq_some_iff.1 h).1

theorem Blk.keep {e : TypeId} {B : Nat} {w w' : World} {g : Nat} {zs : List Int} (h : Blk e w g zs) (hb : Below B w w') (hg : g < B) : Blk e w' g zs := by
  unfold Blk at *
  rw [hb.block g hg, h]

theorem Blk.gb {e : TypeId} {w w' : World} {g r : Nat} {zs : List Int} (h : Blk e w g zs) (hg : w.grownBy w' (some r)) (hne : g ≠ r) : Blk e w' g zs := by
  have hlt := h.lt
  unfold Blk at *
  rw [hg.block g hlt (by simpa using hne), h]

theorem Below.gb {B : Nat} {a w w' : World} {r : Nat} (h : Below B a w) (hg : w.grownBy w' (some r)) (hB : B ≤ r) (hr : r < w.heap.size) : Below B a w' :=
  h.grown hg (by omega) (fun k hk => by cases hk; exact hB)

theorem Blk.cell {e : TypeId} {w : World} {g : Nat} {zs : List Int} (h : Blk e w g zs) (i : Nat) (hi : i < zs.length) : w.cell? ⟨g, i, none⟩ = some (.int .u8 (zs[i]?.getD 0)) := by
  unfold Blk at h
  simp [World.cell?, h, hi]

theorem Blk.free {e : TypeId} {w : World} {g : Nat} {zs : List Int} (h : Blk e w g zs) (i : Nat) : w.frozen? ⟨g, i, none⟩ = false := by
  unfold Blk at h
  simp [World.frozen?, h]

theorem Blk.byt {e : TypeId} {w : World} {g : Nat} {zs : List Int} (h : Blk e w g zs) (hz : ∀ i : Nat, 0 ≤ zs[i]?.getD 0 ∧ zs[i]?.getD 0 ≤ 255) : Byt w (some ⟨g, 0, none⟩) zs.length zs :=
  ⟨rfl, hz, .inr ⟨g, 0, rfl, h.lt, fun i hi => by simpa using h.cell i hi⟩⟩

/-- A store into such a block. -/
theorem Blk.store {e : TypeId} {w : World} {g : Nat} {zs : List Int} (h : Blk e w g zs) (i : Nat) (z : Int) : Blk e (w.setCell ⟨g, i, none⟩ (.int .u8 z)) g (zs.set i z) := by
  have hlt := h.lt
  unfold Blk at *
  simp [World.setCell, Array.getElem?_modify, h]

theorem Blk.of_own {e : TypeId} {w : World} {base g n : Nat} {zs : List Int} {cap : Nat} (h : w.ownsRow base e 1 (.slice (some ⟨g, 0, none⟩) n cap) n (zs.map (Value.int .u8))) (hc : cap = n) : Blk e w g zs := by
  obtain ⟨h1, h2⟩ := h
  rcases h2 with ⟨h2, _⟩ | ⟨g', cap', cur, h2, hb, hh, hn, hm, hs, ht⟩
  · simp at h2
  · simp at h2
    obtain ⟨rfl, rfl⟩ := h2
    unfold Blk
    rw [hh]
    have : cur = (zs.map (Value.int .u8)).toArray := by
      rw [← ht, List.take_of_length_le (by simp; omega)]
    rw [this]

/-- A new block under a name of its own. -/
theorem alloc_facts (v : World) (cs : Array Value) (t : TypeId) : v.heap.size < (v.alloc (.cells cs t)).heap.size ∧ (∀ i, (v.alloc (.cells cs t)).cell? ⟨v.heap.size, i, none⟩ = cs[i]?) ∧ Below v.heap.size v (v.alloc (.cells cs t)) :=
  ⟨by simp, fun i => World.cell?_alloc_at _ _ _ _ rfl, (Below.refl _ _).alloc (Nat.le_refl _) _⟩

/-- What is below in two steps. -/
theorem Below.step {B : Nat} {a b c : World} (h : Below B a b) (k : Below b.heap.size b c) (hB : B ≤ a.heap.size) : Below B a c := h.trans (k.mono (Nat.le_trans hB h.size))

theorem Below.cell2 {w w' : World} (h : Below w.heap.size w w') {b o : Nat} {x : Option Value} (hc : w.cell? ⟨b, o, none⟩ = x) (hb : b < w.heap.size) : w'.cell? ⟨b, o, none⟩ = x := (h.cell (p := ⟨b, o, none⟩) hb).trans hc

/-- A row of the call's own, of bytes. -/
def OwnB (e : TypeId) (w : World) (base g n cap : Nat) (zs : List Int) : Prop :=
  w.ownsRow base e 1 (.slice (some ⟨g, 0, none⟩) n cap) n (zs.map (Value.int .u8))

theorem OwnB.new (e : TypeId) (w : World) (zs : List Int) (n : Nat) (hn : zs.length = n) (hm : n ≤ maxLen) : OwnB e (w.alloc (.cells (zs.map (Value.int .u8)).toArray e)) w.heap.size w.heap.size n n zs :=
  ⟨by simp [hn], .inr ⟨w.heap.size, n, _, rfl, Nat.le_refl _, heap_alloc_new w _, Nat.le_refl _, hm, by simp [hn], List.take_of_length_le (by simp [hn])⟩⟩

theorem OwnB.facts {e : TypeId} {w : World} {base g n cap : Nat} {zs : List Int} (h : OwnB e w base g n cap zs) :
    zs.length = n ∧ base ≤ g ∧ g < w.heap.size ∧ n ≤ cap ∧ cap ≤ maxLen := by
  obtain ⟨h1, h2⟩ := h
  rcases h2 with ⟨h2, _⟩ | ⟨g', cap', cur, h2, hb, hh, hn, hm, hs, ht⟩
  · simp at h2
  · simp at h2
    obtain ⟨rfl, rfl⟩ := h2
    exact ⟨by simpa using h1, hb, (Array.getElem?_eq_some_iff.1 hh).1, hn, hm⟩

theorem OwnB.cell {e : TypeId} {w : World} {base g n cap : Nat} {zs : List Int} (h : OwnB e w base g n cap zs) (i : Nat) (hi : i < n) : w.cell? ⟨g, i, none⟩ = some (.int .u8 (zs[i]?.getD 0)) := by
  have hl := h.facts.1
  have := World.ownsRow.cellAt h i (by omega)
  rw [this]
  simp [show i < zs.length by omega]

theorem OwnB.byt {e : TypeId} {w : World} {base g n cap : Nat} {zs : List Int} (h : OwnB e w base g n cap zs) (hz : ∀ i : Nat, 0 ≤ zs[i]?.getD 0 ∧ zs[i]?.getD 0 ≤ 255) : Byt w (some ⟨g, 0, none⟩) n zs :=
  ⟨h.facts.1, hz, .inr ⟨g, 0, rfl, h.facts.2.2.1, fun i hi => by simpa using h.cell i hi⟩⟩

theorem OwnB.keep {e : TypeId} {B : Nat} {w w' : World} {base g n cap : Nat} {zs : List Int} (h : OwnB e w base g n cap zs) (hb : Below B w w') (hg : g < B) : OwnB e w' base g n cap zs := by
  obtain ⟨h1, h2⟩ := h
  refine ⟨h1, ?_⟩
  rcases h2 with ⟨h2, _⟩ | ⟨g', cap', cur, h2, hb', hh, r⟩
  · simp at h2
  · have hh' := h2
    simp at hh'
    obtain ⟨rfl, rfl⟩ := hh'
    exact .inr ⟨_, _, cur, h2, hb', by rw [hb.block _ hg]; exact hh, r⟩

theorem OwnB.low {e : TypeId} {w : World} {base base' g n cap : Nat} {zs : List Int} (h : OwnB e w base g n cap zs) (hb : base' ≤ base) : OwnB e w base' g n cap zs := by
  obtain ⟨h1, h2⟩ := h
  refine ⟨h1, ?_⟩
  rcases h2 with ⟨h2, _⟩ | ⟨g', cap', cur, h2, hb', r⟩
  · simp at h2
  · exact .inr ⟨g', cap', cur, h2, by omega, r⟩

/-- What an append leaves, where the slice was not nil. -/
theorem OwnB.of_append {e : TypeId} {w' : World} {base g n cap m : Nat} {v' : Value} {xs ys : List Int} (h : w'.ownsRow base e 1 v' (n + m) (xs.map (Value.int .u8) ++ ys.map (Value.int .u8)))
    (hv : v' = .slice none 0 0 ↔ (Value.slice (some ⟨g, 0, none⟩) n cap) = .slice none 0 0 ∧ m = 0) : ∃ g' cap', v' = .slice (some ⟨g', 0, none⟩) (n + m) cap' ∧ OwnB e w' base g' (n + m) cap' (xs ++ ys) := by
  rcases h.2 with ⟨h2, _⟩ | ⟨g', cap', cur, h2, r⟩
  · have := hv.1 h2
    simp at this
  · refine ⟨g', cap', h2, ?_⟩
    subst h2
    unfold OwnB
    rw [List.map_append]
    exact h

theorem OwnB.grown {e : TypeId} {B : Nat} {a w w' : World} {base g n cap : Nat} {zs : List Int} (h : Below B a w) (o : OwnB e w base g n cap zs) (hg : w.grownBy w' (Value.slice (some ⟨g, 0, none⟩) n cap).ownBlock) (hB : B ≤ base) : Below B a w' := by
  have f := o.facts
  exact h.grown hg (by omega) (fun k hk => by cases hk; show B ≤ g; omega)

theorem one_u8 (zs : List Int) : ∀ u ∈ zs.map (Value.int .u8), u.oneCell' = true := by
  intro u hu
  simp at hu
  obtain ⟨z, _, rfl⟩ := hu
  rfl

/-- The cells of a source of bytes, as the laws of append ask for them. -/
theorem src_u8 {w : World} {b off n : Nat} {zs : List Int} (h : Byt w (some ⟨b, off, none⟩) n zs) : ∀ j u, (zs.map (Value.int .u8))[j]? = some u → w.cell? (Addr.add ⟨b, off, none⟩ j) = some u := by
  intro j u hu
  obtain ⟨h1, _, h3⟩ := h
  simp at hu
  obtain ⟨z, hz, rfl⟩ := hu
  have hj : j < zs.length := (List.getElem?_eq_some_iff.1 hz).1
  rcases h3 with h3 | ⟨b', off', e, _, hc⟩
  · omega
  · simp at e
    obtain ⟨rfl, rfl⟩ := e
    have := hc j (by omega)
    have e : Addr.add ⟨b, off, none⟩ j = ⟨b, off + j, none⟩ := by
      unfold Addr.add
      split
      · next h => subst h; rfl
      · rfl
    rw [e, this, hz]
    rfl

/-- append onto a row of bytes of the call's own. -/
theorem append_b {P : Program} (w : World) {ops : Array Oper} {rest : List Oper} {o : Oper} {a : Act} {Q : Exit → Act → World → Prop} (hgd : o.guard = none) (s x : Operand) (t : TypeId)
    (ho : o.op = .call { callee := .builtin .append, args := #[s, x], argTypes := #[t, t] }) (e : TypeId) (ht : P.underlying t = some (.slice e))
    (hi : (P.info? e).map (fun i => (i.zero, i.size, i.bytes)) = some (some (.int .u8 0), 1, 1))
    (base g n cap : Nat) (zs : List Int) (hs : a.eval s = .slice (some ⟨g, 0, none⟩) n cap) (hown : OwnB e w base g n cap zs)
    (b off m c : Nat) (ys : List Int) (hx : a.eval x = .slice (some ⟨b, off, none⟩) m c) (hy : Byt w (some ⟨b, off, none⟩) m ys) (hbd : n + m ≤ 2147483648)
    (B : Nat) (W : World) (hb : Below B W w) (hB : B ≤ base)
    (h : ∀ g' cap' w', OwnB e w' base g' (n + m) cap' (zs ++ ys) → Below B W w' → wpList P ops Q rest (a.put o.dst (.slice (some ⟨g', 0, none⟩) (n + m) cap')) w') : wpList P ops Q (o :: rest) a w := by
  obtain ⟨i0, hi, hz0, hz1, hz2⟩ := info_parts hi
  have f := hown.facts
  refine wpList_append_own w hgd s x t ho base e i0 (.int .u8 0) 1 1 ht hi hz0 hz1 hz2 rfl (by decide) _ n _ hs hown ⟨b, off, none⟩ m c (ys.map (Value.int .u8)) hx (by simp [hy.1]) (src_u8 hy) (one_u8 _) (by unfold maxLen; omega) (by omega) (by omega) ?_
  intro v' w' h1 h2 h3
  obtain ⟨g', cap', rfl, o4⟩ := OwnB.of_append h1 h3
  exact h g' cap' w' o4 (OwnB.grown hb hown h2 hB)

/-- A slice of bytes that came in, as the row's shell opens it. -/
theorem Byt.of_row {w : World} {a : Option Addr} {len cap : Nat} {zs : List Int}
    (h : (a = none ∧ len = 0 ∧ cap = 0 ∧ zs = []) ∨
      ∃ x, a = some x ∧ len ≤ cap ∧ cap ≤ maxLen ∧ zs.length = cap ∧ (∀ i, i < zs.length → w.cell? (x.add i) = some (.int .u8 (zs.getD i 0))) ∧ ∀ n ∈ zs, (Lit.int .u8 n).wf = true) :
    Byt w a len (zs.take len) ∧ len ≤ cap ∧ cap ≤ 9223372036854775807 := by
  rcases h with ⟨rfl, rfl, rfl, rfl⟩ | ⟨x, rfl, hl, hm, hz, hcell, hwz⟩
  · exact ⟨⟨rfl, fun i => by simp, .inl rfl⟩, by omega, by omega⟩
  · refine ⟨⟨by simp; omega, fun i => ?_, ?_⟩, hl, by unfold maxLen at hm; omega⟩
    · by_cases hi : i < len
      · have := bounds_u8 (hwz (zs[i]'(by omega)) (List.getElem_mem _))
        simp [hi, show i < zs.length by omega]
        omega
      · simp [List.getElem?_take, hi]
    · by_cases h0 : len = 0
      · exact .inl h0
      · obtain ⟨b, off, spot⟩ := x
        have hc := hcell 0 (by omega)
        have hspot : spot = none := by simpa [Addr.add] using World.cell?_spot hc
        subst hspot
        refine .inr ⟨b, off, rfl, ?_, fun i hi => ?_⟩
        · have hc0 : w.cell? ⟨b, off, none⟩ = some (.int .u8 (zs.getD 0 0)) := by simpa [Addr.add] using hc
          unfold World.cell? at hc0
          split at hc0
          · next he => exact (Array.getElem?_eq_some_iff.1 he).1
          · cases hc0
        · have hci := hcell i (by omega)
          have e : Addr.add ⟨b, off, none⟩ i = ⟨b, off + i, none⟩ := by
            unfold Addr.add
            split
            · next h => subst h; rfl
            · rfl
          rw [e] at hci
          simpa [List.getElem?_take, hi] using hci

end Go.Proofs.Ythekickjjaleaac

/- Plain mathematics of chapter 1: numbers out of bytes, bytes out of numbers. No program, no memory. -/
namespace Go.Proofs.Ythekickjjaleaac
set_option linter.unusedVariables false

theorem copy_step (k : Nat) (ys zs : List Int) (hy : k < ys.length) (hz : k < zs.length) (h : ∀ j, j < k → ys[j]? = zs[j]?) : ∀ j, j < k + 1 → (ys.set k zs[k])[j]? = zs[j]? := by
  intro j hj
  by_cases e : j = k
  · subst e; simp [hy, hz]
  · rw [List.getElem?_set_ne (by omega)]; exact h j (by omega)

/-- All of the n bytes from addr on lie in a memory of 'len' bytes. -/
def insB (len : Nat) (addr n : Int) : Bool := decide (n ≤ len ∧ addr ≤ len - n)
def goodB (len : Nat) (addr n : Int) : Bool := decide ((n = 1 ∨ n = 2 ∨ n = 4 ∨ n = 8) ∧ n ≤ len ∧ addr ≤ len - n)

/-- The number that bytes make, lowest first. -/
def num : List Int → Int
  | [] => 0
  | b :: r => b + 256 * num r

theorem num_bd : ∀ (zs : List Int) (k : Nat), (∀ z ∈ zs, 0 ≤ z ∧ z ≤ 255) → zs.length ≤ k → 0 ≤ num zs ∧ num zs < 256 ^ k
  | [], k, _, _ => by simp [num]; exact Int.pow_pos (by omega)
  | b :: r, 0, _, h => by simp at h
  | b :: r, k + 1, hz, h => by
    have ih := num_bd r k (fun z hz' => hz z (by simp [hz'])) (by simpa using h)
    have hb := hz b (by simp)
    have e : (256 : Int) ^ (k + 1) = 256 ^ k * 256 := Int.pow_succ _ _
    simp only [num]
    omega

theorem byt_mem {z : Int} {r : List Int} (h : ∀ i : Nat, 0 ≤ (z :: r)[i]?.getD 0 ∧ (z :: r)[i]?.getD 0 ≤ 255) : ∀ x ∈ r, 0 ≤ x ∧ x ≤ 255 := by
  intro x hx
  obtain ⟨i, hi, rfl⟩ := List.getElem_of_mem hx
  simpa [hi] using h (i + 1)

theorem num_append (xs ys : List Int) : num (xs ++ ys) = num xs + 256 ^ xs.length * num ys := by
  induction xs with
  | nil => simp [num]
  | cons x r ih =>
    simp only [List.cons_append, num, ih, List.length_cons, Int.pow_succ]
    rw [Int.mul_add, Int.add_assoc, Int.mul_comm (256 ^ r.length) 256, Int.mul_assoc]

theorem num_sub_bd (zs : List Int) (k m : Nat) (h2 : ∀ i : Nat, 0 ≤ zs[i]?.getD 0 ∧ zs[i]?.getD 0 ≤ 255) : 0 ≤ num ((zs.drop k).take m) ∧ num ((zs.drop k).take m) < 256 ^ m := by
  refine num_bd _ m (fun z hz => ?_) (by simp; omega)
  have hz' := List.mem_of_mem_drop (List.mem_of_mem_take hz)
  obtain ⟨i, hi, rfl⟩ := List.getElem_of_mem hz'
  simpa [hi] using h2 i

/-- What ReadMem answers. -/
def rdV (zs : List Int) (addr n : Int) : Int := if goodB zs.length addr n then num ((zs.drop addr.toNat).take n.toNat) else 0

theorem bd_of_mem {zs : List Int} (h : ∀ z ∈ zs, 0 ≤ z ∧ z ≤ 255) (i : Nat) : 0 ≤ zs[i]?.getD 0 ∧ zs[i]?.getD 0 ≤ 255 := by
  by_cases hi : i < zs.length
  · simpa [hi] using h _ (List.getElem_mem hi)
  · simp [List.getElem?_eq_none (Nat.le_of_not_lt hi)]

/-- zs with ys laid at place k. -/
def put (zs : List Int) (k : Nat) (ys : List Int) : List Int := zs.take k ++ ys ++ zs.drop (k + ys.length)

/-- The marks k, k + 1, .. as bytes. -/
def mks (k : Int) : Nat → List Int
  | 0 => []
  | n + 1 => mks k n ++ [(k + n) % 256]

theorem mks_len (k : Int) : ∀ n, (mks k n).length = n
  | 0 => rfl
  | n + 1 => by simp [mks, mks_len k n]

theorem mks_at (k : Int) : ∀ (n i : Nat), i < n → (mks k n)[i]? = some ((k + i) % 256)
  | 0, i, h => by omega
  | n + 1, i, h => by
    by_cases e : i < n
    · rw [mks, List.getElem?_append_left (by rw [mks_len]; exact e)]
      exact mks_at k n i e
    · have e' : i = n := by omega
      subst e'
      rw [mks, List.getElem?_append_right (by rw [mks_len]; exact Nat.le_refl _), mks_len]
      simp

theorem mark_step (k0 : Int) (len j : Nat) (ys : List Int) (hy : ys.length = len) (hj : j < len) (h : ∀ t, t < j → ys[t]? = (mks k0 len)[t]?) : ∀ t, t < j + 1 → (ys.set j ((k0 + j) % 256))[t]? = (mks k0 len)[t]? := by
  intro t ht
  by_cases e : t = j
  · subst e; rw [mks_at k0 len t hj]; simp [hy, hj]
  · rw [List.getElem?_set_ne (by omega)]; exact h t (by omega)

end Go.Proofs.Ythekickjjaleaac

/- More on rows of bytes in memory. No program is named here. -/
namespace Go.Proofs.Ythekickjjaleaac
open Go.RowKit
set_option linter.unusedVariables false

theorem made_u8 (n : Nat) : (madeCells #[Value.int .u8 0] n).toList = (List.replicate n (0 : Int)).map (Value.int .u8) := by
  apply List.ext_getElem
  · simp [madeCells]
  · intro i h1 h2
    simp [madeCells, Nat.mod_one]

theorem byt_tail {w : World} {a : Option Addr} {b off len : Nat} {z : Int} {r : List Int} (h2 : ∀ i : Nat, 0 ≤ (z :: r)[i]?.getD 0 ∧ (z :: r)[i]?.getD 0 ≤ 255) (hr : r.length = len) (hb : b < w.heap.size)
    (hc : ∀ i, i < len + 1 → w.cell? ⟨b, off + i, none⟩ = some (.int .u8 ((z :: r)[i]?.getD 0))) (ha : 0 < len → a = some ⟨b, off + 1, none⟩) : Byt w a len r := by
  refine ⟨hr, fun i => by simpa using h2 (i + 1), ?_⟩
  by_cases h : len = 0
  · exact .inl h
  · refine .inr ⟨b, off + 1, ha (by omega), hb, fun i hi => ?_⟩
    have := hc (i + 1) (by omega)
    simpa [Nat.add_assoc, Nat.add_comm 1 i] using this

theorem Byt.take {w : World} {a : Option Addr} {len : Nat} {zs : List Int} (h : Byt w a len zs) (k : Nat) (hk : k ≤ len) : Byt w a k (zs.take k) := by
  obtain ⟨h1, h2, h3⟩ := h
  refine ⟨by simp; omega, fun i => ?_, ?_⟩
  · by_cases hi : i < k
    · simpa [List.getElem?_take, hi] using h2 i
    · simp [List.getElem?_take, hi]
  · rcases h3 with h3 | ⟨b, off, rfl, hb, hc⟩
    · exact .inl (by omega)
    · exact .inr ⟨b, off, rfl, hb, fun i hi => by simpa [List.getElem?_take, hi] using hc i (by omega)⟩

theorem Byt.drop {w : World} {b off len : Nat} {zs : List Int} (h : Byt w (some ⟨b, off, none⟩) len zs) (k m : Nat) (hk : k ≤ len) (hm : m = len - k) (a : Option Addr) (ha : k < len → a = some ⟨b, off + k, none⟩) : Byt w a m (zs.drop k) := by
  obtain ⟨h1, h2, h3⟩ := h
  refine ⟨by clear h3; simp; omega, fun i => by simpa using h2 (k + i), ?_⟩
  by_cases h0 : m = 0
  · exact .inl h0
  · rcases h3 with h3 | ⟨b', off', e, hb, hc⟩
    · omega
    · simp at e
      obtain ⟨rfl, rfl⟩ := e
      exact .inr ⟨b, off + k, ha (by omega), hb, fun i hi => by simpa [Nat.add_assoc] using hc (k + i) (by omega)⟩

/-- An 'or' of two numbers that share no bit is their sum. -/
theorem or_shift (s : Nat) (P x y : Int) (hP : P = 2 ^ s) (h0 : 0 ≤ x) (h1 : x < P) (h2 : 0 ≤ y) (h3 : y * P < 18446744073709551616) (h4 : x < 18446744073709551616) : bits .or .u64 x (y * P) = x + y * P := by
  obtain ⟨a, rfl⟩ := Int.eq_ofNat_of_zero_le h0
  obtain ⟨b, rfl⟩ := Int.eq_ofNat_of_zero_le h2
  have e : (b : Int) * P = ((2 ^ s * b : Nat) : Int) := by rw [hP]; push_cast; rw [Int.mul_comm]
  rw [e] at h3 ⊢
  rw [u64_or_nat a (2 ^ s * b) (by omega) (by omega), Nat.or_comm, ← Nat.two_pow_add_eq_or_of_lt (by rw [hP] at h1; exact_mod_cast h1)]
  push_cast
  omega

theorem ret_u64 {a b : Int} (h : a = b) : Ending.returned (.int .u64 a) = .returned (.int .u64 b) := by rw [h]

theorem gb_refl (w : World) (r : Option Nat) : w.grownBy w r := ⟨rfl, rfl, rfl, Nat.le_refl _, fun _ _ _ => rfl⟩

theorem gb_set {w v : World} {g : Nat} (h : w.grownBy v (some g)) (i : Nat) (u : Value) : w.grownBy (v.setCell ⟨g, i, none⟩ u) (some g) :=
  ⟨h.os, h.tape, h.output, by simpa [World.setCell] using h.size, fun k hk hn => by
    rw [Below.heap_setCell _ _ _ _ (by intro e; exact hn (by rw [e]))]
    exact h.block k hk hn⟩

/-- A slice that is not in the row that was written reads as before. -/
theorem Byt.gb {w w' : World} {b off len g : Nat} {zs : List Int} (h : Byt w (some ⟨b, off, none⟩) len zs) (hg : w.grownBy w' (some g)) (hne : b ≠ g) : Byt w' (some ⟨b, off, none⟩) len zs := by
  obtain ⟨h1, h2, h3⟩ := h
  refine ⟨h1, h2, ?_⟩
  rcases h3 with h3 | ⟨b', off', e, hlt, hc⟩
  · exact .inl h3
  · simp at e
    obtain ⟨rfl, rfl⟩ := e
    exact .inr ⟨b, off, rfl, Nat.lt_of_lt_of_le hlt hg.size, fun i hi => (World.cell?_of_block (hg.block b hlt (by simpa using hne))).trans (hc i hi)⟩

/-- The lowest k bits of a number. -/
theorem mask_u64 (k : Nat) (x m : Int) (hm : m = 2 ^ k - 1) (hk : m < 18446744073709551616) (h0 : 0 ≤ x) (h1 : x ≤ 18446744073709551615) : bits .and .u64 x m = x % 2 ^ k := by
  obtain ⟨a, rfl⟩ := Int.eq_ofNat_of_zero_le h0
  have hp : 1 ≤ (2 ^ k : Nat) := Nat.one_le_two_pow
  have e : m = ((2 ^ k - 1 : Nat) : Int) := by rw [hm]; push_cast [hp]; rfl
  rw [e] at hk ⊢
  rw [u64_and_nat a (2 ^ k - 1) (by omega) (by omega), Nat.and_two_pow_sub_one_eq_mod]
  push_cast
  rfl

end Go.Proofs.Ythekickjjaleaac

/- The walks over slices of bytes: toByteS, eqByteS. -/
namespace Go.Proofs.Ythekickjjaleaac
open Go.RowKit
set_option linter.unusedVariables false

theorem Try.infoB : (Try.prog.info? 5).map (fun i => (i.zero, i.size, i.bytes)) = some (some (.int .u8 0), 1, 1) := by kernel_rfl

set_option maxHeartbeats 400000 in
theorem toByteS_any (a : Option Addr) (len cap : Nat) (zs : List Int) (w : World) (h : Byt w a len zs) (hl : len ≤ 1048576) :
    Calls Try.prog 6 #[.slice a len cap] w fun e w' =>
      e = .returned (.slice (some ⟨w.heap.size, 0, none⟩) len len) ∧ Blk 5 w' w.heap.size zs ∧ Below w.heap.size w w' := by
  obtain ⟨i0, hi, hz0, hz1, hz2⟩ := info_parts Try.infoB
  obtain ⟨h1, h2, h3⟩ := h
  go_enter Try.func6, Try.ntmps6
  go_wp2_with (at_make; refine wpList_make_full _ rfl _ _ 22 rfl w.heap.size 5 i0 (.int .u8 0) 1 Try.underlying22 hi hz0 hz1 _ _ _ _ len rfl rfl rfl rfl ?b2 ?b3 (Nat.le_refl _) ?_)
  case b2 => rw [hz2]; omega
  case b3 => unfold maxLen; omega
  intro w0 hown0 hgrow0
  rw [made_u8] at hown0
  have hb0 : Blk 5 w0 w.heap.size (List.replicate len 0) := Blk.of_own hown0 rfl
  have hn0 : Below w.heap.size w w0 := (Below.refl _ _).grown hgrow0 (Nat.le_refl _) (fun k h => by cases h)
  clear hown0 hgrow0
  go_wp2
  go_loopw [4] (fun i wr => ∃ (k : Nat) (ys : List Int), k ≤ len ∧ i = .int .i64 k ∧ ys.length = len ∧ (∀ j, j < k → ys[j]? = zs[j]?) ∧ Blk 5 wr w.heap.size ys ∧ Below w.heap.size w wr) (fun i _ => len - (intOf i).toNat)
  case atStart => exact ⟨0, _, Nat.zero_le _, rfl, by simp, fun j hj => absurd hj (by omega), hb0, hn0⟩
  case round =>
    obtain ⟨k, ys, hk, rfl, hy, hyz, hb, hn⟩ := hrel
    by_cases hlt : k < len
    · rcases h3 with h3 | ⟨b, off, rfl, hbw, hc⟩
      · omega
      have g1 : wr.cell? ⟨b, off + k, none⟩ = some (.int .u8 (zs[k]?.getD 0)) := (hn.cell (by exact hbw)).trans (hc k hlt)
      have g2 := hb.cell k (by omega)
      have g3 := hb.free k
      have g4 := h2 k
      have HZ : Hid (∀ j, j < k → ys[j]? = zs[j]?) := hyz
      clear hc hb0 hn0 hyz
      go_wp2
      go_roundw
      case rel => exact ⟨k + 1, _, by omega, by go_num, by simp [hy], copy_step k ys zs (by omega) (by omega) HZ.out, hb.store k _, hn.setCell (Nat.le_refl _) _⟩
      case measure => simp [intOf]; omega
    · have hyy : ys = zs := by
        apply List.ext_getElem?
        intro j
        by_cases hj : j < len
        · exact hyz j (by omega)
        · rw [List.getElem?_eq_none (by omega), List.getElem?_eq_none (by omega)]
      subst hyy
      clear hyz hb0 hn0 h3
      go_wp2
      go_ret
      exact ⟨rfl, hb, hn⟩

set_option maxHeartbeats 400000 in
theorem eqByteS_same (a b : Option Addr) (len ca cb : Nat) (zs : List Int) (w : World) (h : Byt w a len zs) (h' : Byt w b len zs) (hl : len ≤ 1048576) :
    Calls Try.prog 9 #[.slice a len ca, .slice b len cb] w fun e w' => e = .returned (.bool true) ∧ Below w.heap.size w w' := by
  obtain ⟨h1, h2, h3⟩ := h
  obtain ⟨_, _, k3⟩ := h'
  go_enter Try.func9, Try.ntmps9
  go_wp2
  go_loopw [5] (fun i wr => ∃ (k : Nat), k ≤ len ∧ i = .int .i64 k ∧ ∃ n, wr = w.drewN n) (fun i _ => len - (intOf i).toNat)
  case atStart => exact ⟨0, Nat.zero_le _, rfl, 0, rfl⟩
  case round =>
    obtain ⟨k, hk, rfl, n, rfl⟩ := hrel
    by_cases hlt : k < len
    · rcases h3 with h3 | ⟨b1, o1, rfl, hb1, hc1⟩
      · omega
      rcases k3 with k3 | ⟨b2, o2, rfl, hb2, hc2⟩
      · omega
      have g1 := hc1 k hlt
      have g2 := hc2 k hlt
      clear hc1 hc2
      go_wp2
      go_quiet (fail)
      go_wp2
      go_roundw
      case rel => exact ⟨k + 1, by omega, by go_num, n + nq, rfl⟩
      case measure => simp [intOf]; omega
    · clear h3 k3
      go_wp2
      go_ret
      exact ⟨rfl, below_drewN (Below.refl _ _) _⟩

end Go.Proofs.Ythekickjjaleaac

/- Rows of cells in memory, of whatever element: structs too. No program is named here. -/
namespace Go.Proofs.Ythekickjjaleaac
open Go.RowKit
set_option linter.unusedVariables false

/-- The slice at 'a' of n elements, 'size' cells each, holds the cells cs. -/
def RowC (w : World) (a : Option Addr) (n size : Nat) (cs : List Value) : Prop :=
  cs.length = n * size ∧ (n = 0 ∨ ∃ b off, a = some ⟨b, off, none⟩ ∧ b < w.heap.size ∧ ∀ i v, cs[i]? = some v → w.cell? ⟨b, off + i, none⟩ = some v)

theorem RowC.keep {w w' : World} {a : Option Addr} {n size : Nat} {cs : List Value} (h : RowC w a n size cs) (hb : Below w.heap.size w w') : RowC w' a n size cs := by
  obtain ⟨h1, h3⟩ := h
  refine ⟨h1, ?_⟩
  rcases h3 with h3 | ⟨b, off, rfl, hlt, hc⟩
  · exact .inl h3
  · exact .inr ⟨b, off, rfl, Nat.lt_of_lt_of_le hlt hb.size, fun i v hi => (hb.cell (p := ⟨b, off + i, none⟩) hlt).trans (hc i v hi)⟩

theorem RowC.gb {w w' : World} {b off n size r : Nat} {cs : List Value} (h : RowC w (some ⟨b, off, none⟩) n size cs) (hg : w.grownBy w' (some r)) (hne : b ≠ r) : RowC w' (some ⟨b, off, none⟩) n size cs := by
  obtain ⟨h1, h3⟩ := h
  refine ⟨h1, ?_⟩
  rcases h3 with h3 | ⟨b', off', e, hlt, hc⟩
  · exact .inl h3
  · simp at e
    obtain ⟨rfl, rfl⟩ := e
    exact .inr ⟨b, off, rfl, Nat.lt_of_lt_of_le hlt hg.size, fun i v hi => (World.cell?_of_block (hg.block b hlt (by simpa using hne))).trans (hc i v hi)⟩

theorem RowC.gb' {w w' : World} {a : Option Addr} {n size r : Nat} {cs : List Value} (h : RowC w a n size cs) (hg : w.grownBy w' (some r)) (hne : ∀ q, a = some q → q.block ≠ r) : RowC w' a n size cs := by
  obtain ⟨h1, h3⟩ := h
  refine ⟨h1, ?_⟩
  rcases h3 with h3 | ⟨b, off, rfl, hlt, hc⟩
  · exact .inl h3
  · have hne' : b ≠ r := hne ⟨b, off, none⟩ rfl
    exact .inr ⟨b, off, rfl, Nat.lt_of_lt_of_le hlt hg.size, fun i v hi => (World.cell?_of_block (hg.block b hlt (by simpa using hne'))).trans (hc i v hi)⟩

theorem heap_gb {w w' : World} {g r : Nat} {o : Obj} (h : w.heap[g]? = some o) (hg : w.grownBy w' (some r)) (hne : g ≠ r) : w'.heap[g]? = some o := by
  rw [hg.block g (Array.getElem?_eq_some_iff.1 h).1 (by simpa using hne), h]

theorem RowC.nil (w : World) (a : Option Addr) (size : Nat) : RowC w a 0 size [] := ⟨by simp, .inl rfl⟩

/-- A row of the call's own. -/
def OwnC (e : TypeId) (size : Nat) (w : World) (base g n cap : Nat) (cs : List Value) : Prop :=
  w.ownsRow base e size (.slice (some ⟨g, 0, none⟩) n cap) n cs

theorem OwnC.new (e : TypeId) (size : Nat) (w : World) (cs : List Value) (n : Nat) (hn : cs.length = n * size) (hm : n ≤ maxLen) : OwnC e size (w.alloc (.cells cs.toArray e)) w.heap.size w.heap.size n n cs :=
  ⟨hn, .inr ⟨w.heap.size, n, _, rfl, Nat.le_refl _, heap_alloc_new w _, Nat.le_refl _, hm, by simp [hn], List.take_of_length_le (by simp [hn])⟩⟩

theorem OwnC.facts {e : TypeId} {size : Nat} {w : World} {base g n cap : Nat} {cs : List Value} (h : OwnC e size w base g n cap cs) :
    cs.length = n * size ∧ base ≤ g ∧ g < w.heap.size ∧ n ≤ cap ∧ cap ≤ maxLen := by
  obtain ⟨h1, h2⟩ := h
  rcases h2 with ⟨h2, _⟩ | ⟨g', cap', cur, h2, hb, hh, hn, hm, hs, ht⟩
  · simp at h2
  · simp at h2
    obtain ⟨rfl, rfl⟩ := h2
    exact ⟨h1, hb, (Array.getElem?_eq_some_iff.1 hh).1, hn, hm⟩

theorem OwnC.row {e : TypeId} {size : Nat} {w : World} {base g n cap : Nat} {cs : List Value} (h : OwnC e size w base g n cap cs) : RowC w (some ⟨g, 0, none⟩) n size cs := by
  refine ⟨h.1, .inr ⟨g, 0, rfl, h.facts.2.2.1, fun i v hi => ?_⟩⟩
  have hl : i < cs.length := (List.getElem?_eq_some_iff.1 hi).1
  rw [Nat.zero_add, World.ownsRow.cellAt h i (by rw [← h.1]; exact hl), hi]

theorem OwnC.keep {e : TypeId} {size B : Nat} {w w' : World} {base g n cap : Nat} {cs : List Value} (h : OwnC e size w base g n cap cs) (hb : Below B w w') (hg : g < B) : OwnC e size w' base g n cap cs := by
  obtain ⟨h1, h2⟩ := h
  refine ⟨h1, ?_⟩
  rcases h2 with ⟨h2, _⟩ | ⟨g', cap', cur, h2, hb', hh, r⟩
  · simp at h2
  · have hh' := h2
    simp at hh'
    obtain ⟨rfl, rfl⟩ := hh'
    exact .inr ⟨_, _, cur, h2, hb', by rw [hb.block _ hg]; exact hh, r⟩

theorem OwnC.gb {e : TypeId} {size : Nat} {w w' : World} {base g n cap r : Nat} {cs : List Value} (h : OwnC e size w base g n cap cs) (hg : w.grownBy w' (some r)) (hne : g ≠ r) : OwnC e size w' base g n cap cs := by
  obtain ⟨h1, h2⟩ := h
  refine ⟨h1, ?_⟩
  rcases h2 with ⟨h2, _⟩ | ⟨g', cap', cur, h2, hb', hh, r'⟩
  · simp at h2
  · have hh' := h2
    simp at hh'
    obtain ⟨rfl, rfl⟩ := hh'
    exact .inr ⟨_, _, cur, h2, hb', by rw [hg.block _ (Array.getElem?_eq_some_iff.1 hh).1 (by simpa using hne)]; exact hh, r'⟩

theorem OwnC.low {e : TypeId} {size : Nat} {w : World} {base base' g n cap : Nat} {cs : List Value} (h : OwnC e size w base g n cap cs) (hb : base' ≤ base) : OwnC e size w base' g n cap cs := by
  obtain ⟨h1, h2⟩ := h
  refine ⟨h1, ?_⟩
  rcases h2 with ⟨h2, _⟩ | ⟨g', cap', cur, h2, hb', r⟩
  · simp at h2
  · exact .inr ⟨g', cap', cur, h2, by omega, r⟩

theorem OwnC.of_append {e : TypeId} {size : Nat} {w' : World} {base g n cap m : Nat} {v' : Value} {cs : List Value} (h : w'.ownsRow base e size v' (n + m) cs)
    (hv : v' = .slice none 0 0 ↔ (Value.slice (some ⟨g, 0, none⟩) n cap) = .slice none 0 0 ∧ m = 0) : ∃ g' cap', v' = .slice (some ⟨g', 0, none⟩) (n + m) cap' ∧ OwnC e size w' base g' (n + m) cap' cs := by
  rcases h.2 with ⟨h2, _⟩ | ⟨g', cap', cur, h2, r⟩
  · have := hv.1 h2
    simp at this
  · refine ⟨g', cap', h2, ?_⟩
    subst h2
    exact h

theorem OwnC.grown {e : TypeId} {size B : Nat} {a w w' : World} {base g n cap : Nat} {cs : List Value} (h : Below B a w) (o : OwnC e size w base g n cap cs) (hg : w.grownBy w' (Value.slice (some ⟨g, 0, none⟩) n cap).ownBlock) (hB : B ≤ base) : Below B a w' := by
  have f := o.facts
  exact h.grown hg (by omega) (fun k hk => by cases hk; show B ≤ g; omega)

theorem src_row {w : World} {b off n size : Nat} {cs : List Value} (h : RowC w (some ⟨b, off, none⟩) n size cs) : ∀ j u, cs[j]? = some u → w.cell? (Addr.add ⟨b, off, none⟩ j) = some u := by
  intro j u hu
  obtain ⟨h1, h3⟩ := h
  rcases h3 with h3 | ⟨b', off', e, _, hc⟩
  · subst h3
    simp at h1
    subst h1
    simp at hu
  · simp at e
    obtain ⟨rfl, rfl⟩ := e
    have e : Addr.add ⟨b, off, none⟩ j = ⟨b, off + j, none⟩ := by
      unfold Addr.add
      split
      · next h => subst h; rfl
      · rfl
    rw [e]
    exact hc j u hu

end Go.Proofs.Ythekickjjaleaac

/- The laws' helpers over rows of numbers: eqUint64S, eqInt64S. -/
namespace Go.Proofs.Ythekickjjaleaac
open Go.RowKit
set_option linter.unusedVariables false

theorem eqUint64S_same (a b : Option Addr) (len ca cb : Nat) (zs : List Int) (w : World) (h : RowC w a len 1 (zs.map (Value.int .u64))) (h' : RowC w b len 1 (zs.map (Value.int .u64))) (hl : len ≤ 1048576) :
    Calls Try.prog 43 #[.slice a len ca, .slice b len cb] w fun e w' => e = .returned (.bool true) ∧ ∃ n, w' = w.drewN n := by
  obtain ⟨h1, h3⟩ := h
  obtain ⟨_, k3⟩ := h'
  have hz : zs.length = len := by simpa using h1
  have HAt : Hid (∀ k, k < len → (zs.map (Value.int .u64))[k]? = some (.int .u64 (zs[k]?.getD 0))) := fun k hk => by
    have : k < zs.length := by omega
    simp [this]
  clear h1
  go_enter Try.func43, Try.ntmps43
  go_wp2
  go_loopw [5] (fun i wr => ∃ (k : Nat), k ≤ len ∧ i = .int .i64 k ∧ ∃ n, wr = w.drewN n) (fun i _ => len - (intOf i).toNat)
  case atStart => exact ⟨0, Nat.zero_le _, rfl, 0, rfl⟩
  case round =>
    obtain ⟨k, hk, rfl, n, rfl⟩ := hrel
    by_cases hlt : k < len
    · rcases h3 with h3 | ⟨b1, o1, rfl, hb1, hc1⟩
      · omega
      rcases k3 with k3 | ⟨b2, o2, rfl, hb2, hc2⟩
      · omega
      have g1 := hc1 k _ (HAt.out k hlt)
      have g2 := hc2 k _ (HAt.out k hlt)
      generalize zs[k]?.getD 0 = z at g1 g2
      clear hc1 hc2
      go_wp2
      go_quiet (fail)
      go_wp2
      go_roundw
      case rel => exact ⟨k + 1, by omega, by go_num, n + nq, rfl⟩
      case measure => simp [intOf]; omega
    · go_wp2
      go_ret
      exact ⟨rfl, n, rfl⟩

theorem eqInt64S_same (a b : Option Addr) (len ca cb : Nat) (zs : List Int) (w : World) (h : RowC w a len 1 (zs.map (Value.int .i64))) (h' : RowC w b len 1 (zs.map (Value.int .i64))) (hl : len ≤ 1048576) :
    Calls Try.prog 30 #[.slice a len ca, .slice b len cb] w fun e w' => e = .returned (.bool true) ∧ ∃ n, w' = w.drewN n := by
  obtain ⟨h1, h3⟩ := h
  obtain ⟨_, k3⟩ := h'
  have hz : zs.length = len := by simpa using h1
  have HAt : Hid (∀ k, k < len → (zs.map (Value.int .i64))[k]? = some (.int .i64 (zs[k]?.getD 0))) := fun k hk => by
    have : k < zs.length := by omega
    simp [this]
  clear h1
  go_enter Try.func30, Try.ntmps30
  go_wp2
  go_loopw [5] (fun i wr => ∃ (k : Nat), k ≤ len ∧ i = .int .i64 k ∧ ∃ n, wr = w.drewN n) (fun i _ => len - (intOf i).toNat)
  case atStart => exact ⟨0, Nat.zero_le _, rfl, 0, rfl⟩
  case round =>
    obtain ⟨k, hk, rfl, n, rfl⟩ := hrel
    by_cases hlt : k < len
    · rcases h3 with h3 | ⟨b1, o1, rfl, hb1, hc1⟩
      · omega
      rcases k3 with k3 | ⟨b2, o2, rfl, hb2, hc2⟩
      · omega
      have g1 := hc1 k _ (HAt.out k hlt)
      have g2 := hc2 k _ (HAt.out k hlt)
      generalize zs[k]?.getD 0 = z at g1 g2
      clear hc1 hc2
      go_wp2
      go_quiet (fail)
      go_wp2
      go_roundw
      case rel => exact ⟨k + 1, by omega, by go_num, n + nq, rfl⟩
      case measure => simp [intOf]; omega
    · go_wp2
      go_ret
      exact ⟨rfl, n, rfl⟩

end Go.Proofs.Ythekickjjaleaac

/- The specification's reading of a memory: l1Inside, l1Good, l1Number, spec.ReadMem. -/
namespace Go.Proofs.Ythekickjjaleaac
open Go.RowKit
set_option linter.unusedVariables false

set_option maxHeartbeats 400000 in
theorem l1Number_any (zs : List Int) : ∀ (a : Option Addr) (len cap : Nat) (w : World), Byt w a len zs → len ≤ 8 → len ≤ cap → cap ≤ 9223372036854775807 →
    Calls Try.prog 46 #[.slice a len cap] w fun e w' => e = .returned (.int .u64 (num zs)) ∧ ∃ n, w' = w.drewN n := by
  induction zs with
  | nil =>
    intro a len cap w h h8 hc hm
    obtain ⟨h1, h2, h3⟩ := h
    simp at h1
    subst h1
    clear h2 h3
    go_enter Try.func46, Try.ntmps46
    go_wp2_with fail
    go_ret
    exact ⟨rfl, 0, rfl⟩
  | cons z r ih =>
    intro a len cap w h h8 hc hm
    obtain ⟨h1, h2, h3⟩ := h
    simp at h1
    obtain ⟨len', rfl⟩ : ∃ m, len = m + 1 := ⟨r.length, h1.symm⟩
    rcases h3 with h3 | ⟨b, off, rfl, hb, hcl⟩
    · omega
    have hcell : w.cell? ⟨b, off, none⟩ = some (.int .u8 z) := by simpa using hcl 0 (by omega)
    have hz : 0 ≤ z ∧ z ≤ 255 := by simpa using h2 0
    have hnb := num_bd r 7 (byt_mem h2) (by omega)
    simp at hnb
    have hpos : ((len' : Int) + 1 == 0) = false := by simp; omega
    have hs1 : (1 : Int) ≤ (len' : Int) + 1 := by omega
    have hs2 : (1 : Int) ≤ ((len' + 1 : Nat) : Int) := by omega
    have h1' : r.length = len' := by omega
    have hby : ∀ n, Byt (w.drewN n) (if cap = 1 then some ⟨b, off, none⟩ else some ⟨b, off + 1, none⟩) len' r := fun n =>
      byt_tail h2 h1' hb hcl (fun h => if_neg (by omega))
    have IH : Hid (∀ (a : Option Addr) (len cap : Nat) (w : World), Byt w a len r → len ≤ 8 → len ≤ cap → cap ≤ 9223372036854775807 →
      Calls Try.prog 46 #[.slice a len cap] w fun e w' => e = .returned (.int .u64 (num r)) ∧ ∃ n, w' = w.drewN n) := ih
    have HB : Hid (∀ n, Byt (w.drewN n) (if cap = 1 then some ⟨b, off, none⟩ else some ⟨b, off + 1, none⟩) len' r) := hby
    clear ih hcl h2 h1 h1' hby
    go_enter Try.func46, Try.ntmps46
    go_wp2_with fail
    go_quiet ((go_at_call 46; exact Calls.quiet_of (IH.out _ _ _ _ (HB.out _) (by omega) (by omega) (by omega))))
    go_wp2_with fail
    all_goals
      go_ret
      exact ⟨rfl, nq, rfl⟩

end Go.Proofs.Ythekickjjaleaac

/- Plain mathematics of chapter 2: the bits of a table entry. No program, no memory. -/
namespace Go.Proofs.Ythekickjjaleaac
set_option linter.unusedVariables false

/-- Bit i of x, p being 2 to the i. -/
def bitB (x p : Int) : Bool := x / p % 2 == 1
def canonM (va : Int) : Bool := va / 16384 % 1125899906842624 == 0 || va / 16384 % 1125899906842624 == 1125899906842623
def ppnM (pte : Int) : Int := pte / 1024 % 17592186044416

/-- 2 to the (3 * level), at the levels that there are. -/
def pow3 (level : Int) : Int := if level = 0 then 1 else if level = 1 then 8 else 64
/-- 2 to the (6 + 3 * level). -/
def spanM (level : Int) : Int := if level = 0 then 64 else if level = 1 then 512 else 4096

def kindM (pte level : Int) : Int :=
  if level < 0 ∨ 2 < level ∨ bitB pte 1 = false ∨ 0 < pte / 18014398509481984 % 1024 ∨ (bitB pte 4 = true ∧ bitB pte 2 = false) then 0
  else if bitB pte 2 = false ∧ bitB pte 4 = false ∧ bitB pte 8 = false then
    (if level = 0 ∨ bitB pte 16 = true ∨ bitB pte 64 = true ∨ bitB pte 128 = true then 0 else 1)
  else if 0 < ppnM pte % pow3 level then 0 else 2

def grantM (pte kind mode : Int) (sum mxr : Bool) : Bool :=
  (if kind = 0 then bitB pte 8 else if kind = 1 then bitB pte 2 || (mxr && bitB pte 8) else if kind = 2 then bitB pte 4 && bitB pte 128 else false) &&
  (if mode = 0 then bitB pte 16 else if mode = 1 then !bitB pte 16 || (kind != 0 && sum) else false) && bitB pte 64

def physM (pte level va : Int) : Int :=
  if level < 0 ∨ 2 < level then 0 else ppnM pte * 64 / spanM level * spanM level + va % spanM level

end Go.Proofs.Ythekickjjaleaac
