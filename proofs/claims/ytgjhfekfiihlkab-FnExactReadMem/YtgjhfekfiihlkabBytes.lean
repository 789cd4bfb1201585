/- Rows of bytes in memory: what a slice of bytes reads as, and what a block of the call's own holds. No program is named here. -/
import Derived.WalkKit
import Derived.OpenShut
namespace Go.Proofs.Ytgjhfekfiihlkab
open Go.RowKit

/-- The slice at 'a' of length 'len' reads as the numbers 'zs', each a byte. -/
def Byt (w : World) (a : Option Addr) (len : Nat) (zs : List Int) : Prop :=
  zs.length = len ∧ (∀ i : Nat, 0 ≤ zs[i]?.getD 0 ∧ zs[i]?.getD 0 ≤ 255) ∧
  (len = 0 ∨ ∃ b off, a = some ⟨b, off, none⟩ ∧ b < w.heap.size ∧ ∀ i, i < len → w.cell? ⟨b, off + i, none⟩ = some (.int .u8 (zs[i]?.getD 0)))

/-- Block 'g' holds just the numbers 'zs'. -/
def Blk (e : TypeId) (w : World) (g : Nat) (zs : List Int) : Prop :=
  w.heap[g]? = some (.cells (zs.map (Value.int .u8)).toArray e (0, 0))

theorem Byt.keep {w w' : World} {a : Option Addr} {len : Nat} {zs : List Int} (h : Byt w a len zs) (hb : Below w.heap.size w w') : Byt w' a len zs := by
  obtain ⟨h1, h2, h3⟩ := h
  refine ⟨h1, h2, ?_⟩
  rcases h3 with h3 | ⟨b, off, rfl, hlt, hc⟩
  · exact .inl h3
  · exact .inr ⟨b, off, rfl, Nat.lt_of_lt_of_le hlt hb.size, fun i hi => (hb.cell (p := ⟨b, off + i, none⟩) hlt).trans (hc i hi)⟩

theorem Blk.lt {e : TypeId} {w : World} {g : Nat} {zs : List Int} (h : Blk e w g zs) : g < w.heap.size := by
  unfold Blk at h
  exact (Array.getElem?_eq_some_iff.1 h).1

theorem Blk.keep {e : TypeId} {B : Nat} {w w' : World} {g : Nat} {zs : List Int} (h : Blk e w g zs) (hb : Below B w w') (hg : g < B) : Blk e w' g zs := by
  unfold Blk at *
  rw [hb.block g hg, h]

theorem Blk.cell {e : TypeId} {w : World} {g : Nat} {zs : List Int} (h : Blk e w g zs) (i : Nat) (hi : i < zs.length) : w.cell? ⟨g, i, none⟩ = some (.int .u8 (zs[i]?.getD 0)) := by
  unfold Blk at h
  simp [World.cell?, h, hi]

theorem Blk.free {e : TypeId} {w : World} {g : Nat} {zs : List Int} (h : Blk e w g zs) (i : Nat) : w.frozen? ⟨g, i, none⟩ = false := by
  unfold Blk at h
  simp [World.frozen?, h]

theorem Blk.byt {e : TypeId} {w : World} {g : Nat} {zs : List Int} (h : Blk e w g zs) (hz : ∀ i : Nat, 0 ≤ zs[i]?.getD 0 ∧ zs[i]?.getD 0 ≤ 255) : Byt w (some ⟨g, 0, none⟩) zs.length zs :=
  ⟨rfl, hz, .inr ⟨g, 0, rfl, h.lt, fun i hi => by simpa using h.cell i hi⟩⟩

/-- A store into such a block. -/
theorem Blk.store {e : TypeId} {w : World} {g : Nat} {zs : List Int} (h : Blk e w g zs) (i : Nat) (z : Int) : Blk e (w.setCell ⟨g, i, none⟩ (.int .u8 z)) g (zs.set i z) := by
  have hlt := h.lt
  unfold Blk at *
  simp [World.setCell, Array.getElem?_modify, h]

theorem Blk.of_own {e : TypeId} {w : World} {base g n : Nat} {zs : List Int} {cap : Nat} (h : w.ownsRow base e 1 (.slice (some ⟨g, 0, none⟩) n cap) n (zs.map (Value.int .u8))) (hc : cap = n) : Blk e w g zs := by
  obtain ⟨h1, h2⟩ := h
  rcases h2 with ⟨h2, _⟩ | ⟨g', cap', cur, h2, hb, hh, hn, hm, hs, ht⟩
  · simp at h2
  · simp at h2
    obtain ⟨rfl, rfl⟩ := h2
    unfold Blk
    rw [hh]
    have : cur = (zs.map (Value.int .u8)).toArray := by
      rw [← ht, List.take_of_length_le (by simp; omega)]
    rw [this]

/-- All old cells and marks read as before: two rules for the walk. -/
theorem bcell {W w1 : World} (hb : Below W.heap.size W w1) : (∀ b o, b < W.heap.size → w1.cell? ⟨b, o, none⟩ = W.cell? ⟨b, o, none⟩) ∧ (∀ b o, b < W.heap.size → w1.frozen? ⟨b, o, none⟩ = W.frozen? ⟨b, o, none⟩) :=
  ⟨fun b o h => hb.cell (p := ⟨b, o, none⟩) h, fun b o h => hb.frozen (p := ⟨b, o, none⟩) h⟩

/-- A new block under a name of its own. -/
theorem alloc_facts (v : World) (cs : Array Value) (t : TypeId) : v.heap.size < (v.alloc (.cells cs t)).heap.size ∧ (∀ i, (v.alloc (.cells cs t)).cell? ⟨v.heap.size, i, none⟩ = cs[i]?) ∧ Below v.heap.size v (v.alloc (.cells cs t)) :=
  ⟨by simp, fun i => World.cell?_alloc_at _ _ _ _ rfl, (Below.refl _ _).alloc (Nat.le_refl _) _⟩

/-- What is below in two steps. -/
theorem Below.step {B : Nat} {a b c : World} (h : Below B a b) (k : Below b.heap.size b c) (hB : B ≤ a.heap.size) : Below B a c := h.trans (k.mono (Nat.le_trans hB h.size))

theorem Below.cell2 {w w' : World} (h : Below w.heap.size w w') {b o : Nat} {x : Option Value} (hc : w.cell? ⟨b, o, none⟩ = x) (hb : b < w.heap.size) : w'.cell? ⟨b, o, none⟩ = x := (h.cell (p := ⟨b, o, none⟩) hb).trans hc

/-- A slice of bytes that came in, as the row's shell opens it. -/
theorem Byt.of_row {w : World} {a : Option Addr} {len cap : Nat} {zs : List Int}
    (h : (a = none ∧ len = 0 ∧ cap = 0 ∧ zs = []) ∨
      ∃ x, a = some x ∧ len ≤ cap ∧ cap ≤ maxLen ∧ zs.length = cap ∧ (∀ i, i < zs.length → w.cell? (x.add i) = some (.int .u8 (zs.getD i 0))) ∧ ∀ n ∈ zs, (Lit.int .u8 n).wf = true) :
    Byt w a len (zs.take len) ∧ len ≤ cap ∧ cap ≤ 9223372036854775807 := by
  rcases h with ⟨rfl, rfl, rfl, rfl⟩ | ⟨x, rfl, hl, hm, hz, hcell, hwz⟩
  · exact ⟨⟨rfl, fun i => by simp, .inl rfl⟩, by omega, by omega⟩
  · refine ⟨⟨by simp; omega, fun i => ?_, ?_⟩, hl, by unfold maxLen at hm; omega⟩
    · by_cases hi : i < len
      · have := bounds_u8 (hwz (zs[i]'(by omega)) (List.getElem_mem _))
        simp [hi, show i < zs.length by omega]
        omega
      · simp [List.getElem?_take, hi]
    · by_cases h0 : len = 0
      · exact .inl h0
      · obtain ⟨b, off, spot⟩ := x
        have hc := hcell 0 (by omega)
        have hspot : spot = none := by simpa [Addr.add] using World.cell?_spot hc
        subst hspot
        refine .inr ⟨b, off, rfl, ?_, fun i hi => ?_⟩
        · have hc0 : w.cell? ⟨b, off, none⟩ = some (.int .u8 (zs.getD 0 0)) := by simpa [Addr.add] using hc
          unfold World.cell? at hc0
          split at hc0
          · next he => exact (Array.getElem?_eq_some_iff.1 he).1
          · cases hc0
        · have hci := hcell i (by omega)
          have e : Addr.add ⟨b, off, none⟩ i = ⟨b, off + i, none⟩ := by
            unfold Addr.add
            split
            · next h => subst h; rfl
            · rfl
          rw [e] at hci
          simpa [List.getElem?_take, hi] using hci

end Go.Proofs.Ytgjhfekfiihlkab
