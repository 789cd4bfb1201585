import Derived.Test.YthekickjjaleaacPack11
import Derived.Test.YthekickjjaleaacPack08
import Derived.Test.YthekickjjaleaacPack02
import Derived.Test.YthekickjjaleaacPack05
import Derived.Laws.CopyRow
import Derived.Laws.CopyOwn
import Derived.Test.YthekickjjaleaacPack03
import Derived.Test.YthekickjjaleaacPack04
import Derived.Test.YthekickjjaleaacPack09
/- The program's scripts: the reader of bytes. -/
namespace Go.Proofs.Ythekickjjaleaac
open Go.RowKit
set_option linter.unusedVariables false
attribute [local go_sem ↓] Go.wp_at_zero Go.wp_at_succ

theorem Byt.gb0 {w w' : World} {a : Option Addr} {len r : Nat} {zs : List Int} (h : Byt w a len zs) (hg : w.grownBy w' (some r)) (hne : 0 < len → ∀ q, a = some q → q.block ≠ r) : Byt w' a len zs := by
  rcases Nat.eq_zero_or_pos len with h0 | h0
  · exact ⟨h.1, h.2.1, .inl h0⟩
  · exact h.gb' hg (hne h0)

/-- A reader at position p of the bytes zs. -/
structure RdAt (w : World) (b : Nat) (a : Option Addr) (len cap : Nat) (zs : List Int) (p : Nat) : Prop where
  box : w.heap[b]? = some (.cells #[.slice a len cap, .int .i64 ((min p len : Nat) : Int)] 59 (0, 0))
  byt : Byt w a len zs
  ne : 0 < len → ∀ q, a = some q → q.block ≠ b
  len : len ≤ 1048576

theorem RdAt.lt {w : World} {b : Nat} {a : Option Addr} {len cap : Nat} {zs : List Int} {p : Nat} (h : RdAt w b a len cap zs p) : b < w.heap.size := (Array.getElem?_eq_some_iff.1 h.box).1

theorem RdAt.keep {w w' : World} {b : Nat} {a : Option Addr} {len cap : Nat} {zs : List Int} {p : Nat} (h : RdAt w b a len cap zs p) (hn : Below w.heap.size w w') : RdAt w' b a len cap zs p :=
  ⟨heap_keep h.box hn h.lt, h.byt.keep hn, h.ne, h.len⟩

theorem RdAt.gb {w w' : World} {b r : Nat} {a : Option Addr} {len cap : Nat} {zs : List Int} {p : Nat} (h : RdAt w b a len cap zs p) (hg : w.grownBy w' (some r)) (hb : b ≠ r) (ha : 0 < len → ∀ q, a = some q → q.block ≠ r) : RdAt w' b a len cap zs p :=
  ⟨heap_gb h.box hg hb, h.byt.gb0 hg ha, h.ne, h.len⟩

theorem RdAt.off {w : World} {b r : Nat} {a : Option Addr} {len cap : Nat} {zs : List Int} {p : Nat} (h : RdAt w b a len cap zs p) (hr : w.heap.size ≤ r) : 0 < len → ∀ q, a = some q → q.block ≠ r := by
  intro h0 q hq
  rcases h.byt.2.2 with h1 | ⟨g, off, e, hlt, _⟩
  · omega
  · rw [e] at hq
    cases hq
    simp only
    omega

theorem RdAt.step {w w' : World} {b : Nat} {a : Option Addr} {len cap : Nat} {zs : List Int} {p p' : Nat} (h : RdAt w b a len cap zs p) (hg : w.grownBy w' (some b)) (hb : w'.heap[b]? = some (.cells #[.slice a len cap, .int .i64 ((min p' len : Nat) : Int)] 59 (0, 0))) : RdAt w' b a len cap zs p' :=
  ⟨hb, h.byt.gb0 hg h.ne, h.ne, h.len⟩

set_option maxHeartbeats 800000 in
theorem next_any (b len cap p : Nat) (a : Option Addr) (zs : List Int) (w : World) (h : RdAt w b a len cap zs p) :
    Calls Try.prog 23 #[.pointer (some ⟨b, 0, none⟩)] w fun e w' => e = .returned (.int .u8 (atM zs p)) ∧ RdAt w' b a len cap zs (p + 1) ∧ w.grownBy w' (some b) := by
  have HR : Hid (RdAt w b a len cap zs p) := h
  have c0 := box_cell h.box 0 (show (#[Value.slice a len cap, .int .i64 ((min p len : Nat) : Int)] : Array Value)[0]? = some (.slice a len cap) from rfl)
  have c1 := box_cell h.box 1 (show (#[Value.slice a len cap, .int .i64 ((min p len : Nat) : Int)] : Array Value)[1]? = some (.int .i64 ((min p len : Nat) : Int)) from rfl)
  have f1 := box_free h.box 1
  have hl := h.len
  by_cases hp : p < len
  · have hm : min p len = p := by omega
    rw [hm] at c1
    rcases h.byt.2.2 with h3 | ⟨g, off, rfl, hgw, hc⟩
    · omega
    have g1 := hc p hp
    have g2 := h.byt.2.1 p
    have hne : g ≠ b := h.ne (by omega) ⟨g, off, none⟩ rfl
    have HZ : Hid (atM zs p = zs[p]?.getD 0) := rfl
    rw [HZ.out]
    generalize zs[p]?.getD 0 = z at g1 g2 ⊢
    obtain ⟨g21, g22⟩ := g2
    clear hc h hm HZ
    go_enter Try.func23, Try.ntmps23
    go_wp2_with fail
    go_quiet (fail)
    rename Nat => nq'
    go_wp2_with fail
    go_quiet (fail)
    go_wp2_with fail
    go_ret
    have hg := gb_set (gb_drewN (gb_refl w (some b)) (nq' + nq)) 1 (.int .i64 ((p : Int) + 1))
    refine ⟨rfl, HR.out.step hg ?_, hg⟩
    have := box_set (w := w.drewN (nq' + nq)) HR.out.box 1 (.int .i64 ((p : Int) + 1))
    rw [show min (p + 1) len = p + 1 by omega]
    exact this
  · have hm : min p len = len := by omega
    have HZ : Hid (atM zs p = 0) := by
      show zs[p]?.getD 0 = 0
      rw [List.getElem?_eq_none (by rw [h.byt.1]; omega)]
      rfl
    rw [HZ.out]
    rw [hm] at c1
    clear HZ h hm
    go_enter Try.func23, Try.ntmps23
    go_wp2_with fail
    go_quiet (fail)
    go_wp2_with fail
    go_ret
    have hg := gb_drewN (gb_refl w (some b)) nq
    refine ⟨rfl, HR.out.step hg ?_, hg⟩
    rw [show min (p + 1) len = min p len by omega]
    exact HR.out.box

def numM (zs : List Int) (p k : Nat) : Int := num ((List.range k).map fun j => atM zs (p + j))

theorem numM_bd {zs : List Int} (h : ∀ i : Nat, 0 ≤ zs[i]?.getD 0 ∧ zs[i]?.getD 0 ≤ 255) (p k : Nat) : 0 ≤ numM zs p k ∧ numM zs p k < 256 ^ k :=
  num_bd _ k (fun z hz => by
    simp only [List.mem_map] at hz
    obtain ⟨j, _, rfl⟩ := hz
    exact h _) (by simp)

theorem numM_succ (zs : List Int) (p k : Nat) : numM zs p (k + 1) = numM zs p k + 256 ^ k * atM zs (p + k) := by
  unfold numM
  rw [range_snoc, num_append]
  simp [num]

set_option maxHeartbeats 1600000 in
theorem number_any (b len cap p n : Nat) (a : Option Addr) (zs : List Int) (w : World) (h : RdAt w b a len cap zs p) (hn : n ≤ 8) :
    Calls Try.prog 25 #[.pointer (some ⟨b, 0, none⟩), .int .i64 n] w fun e w' => e = .returned (.int .u64 (numM zs p n)) ∧ RdAt w' b a len cap zs (p + n) ∧ w.grownBy w' (some b) := by
  have HR : Hid (RdAt w b a len cap zs p) := h
  have HBd : Hid (∀ i : Nat, 0 ≤ zs[i]?.getD 0 ∧ zs[i]?.getD 0 ≤ 255) := h.byt.2.1
  clear h
  go_enter Try.func25, Try.ntmps25
  go_wp2_with fail
  go_loopw [5, 8] (fun vv iv wr => ∃ (k : Nat), k ≤ n ∧ vv = .int .u64 (numM zs p k) ∧ iv = .int .i64 k ∧ RdAt wr b a len cap zs (p + k) ∧ w.grownBy wr (some b)) (fun _ iv _ => n - (intOf iv).toNat)
  case atStart => exact ⟨0, Nat.zero_le _, rfl, rfl, HR.out, gb_refl _ _⟩
  case round =>
    obtain ⟨k, hk, rfl, rfl, hR, hG⟩ := hrel
    have HRk : Hid _ := hR
    have HGk : Hid _ := hG
    clear hR hG
    by_cases hkn : k < n
    · have hb1 := numM_bd HBd.out p k
      have hy := HBd.out (p + k)
      have HS : Hid _ := numM_succ zs p k
      have HY : Hid (atM zs (p + k) = zs[p + k]?.getD 0) := rfl
      rw [← HY.out] at hy
      obtain ⟨x, hx⟩ : ∃ x, numM zs p k = x := ⟨_, rfl⟩
      obtain ⟨y, hyy⟩ : ∃ y, atM zs (p + k) = y := ⟨_, rfl⟩
      have HYy : Hid _ := hyy
      rw [hx, hyy] at HS
      rw [hx] at hb1 ⊢
      rw [hyy] at hy
      obtain ⟨hb11, hb12⟩ := hb1
      obtain ⟨hy1, hy2⟩ := hy
      clear hx hyy
      have hcs : k = 0 ∨ k = 1 ∨ k = 2 ∨ k = 3 ∨ k = 4 ∨ k = 5 ∨ k = 6 ∨ k = 7 := by omega
      rcases hcs with rfl | rfl | rfl | rfl | rfl | rfl | rfl | rfl
      all_goals
        go_wp2_with fail
        refine (next_any b len cap _ a zs wr HRk.out).mono ?_
        rintro e v1 ⟨rfl, hR1, hG1⟩
        have HG1 : Hid _ := gb_trans HGk.out hG1
        have HR1 : Hid _ := hR1
        rw [HYy.out]
        clear hR1 hG1
        go_wp2_with fail
      · refine ⟨⟨1, by omega, ?_, rfl, HR1.out, HG1.out⟩, by simp [intOf]; omega⟩
        have e := or_shift 0 1 x y rfl hb11 (by omega) hy1 (by omega) (by omega)
        rw [Int.mul_one] at e
        rw [e, HS.out, show ((256 : Int) ^ 0) = 1 from rfl, Int.one_mul]
      · refine ⟨⟨2, by omega, ?_, rfl, HR1.out, HG1.out⟩, by simp [intOf]; omega⟩
        rw [or_shift 8 256 x y rfl hb11 (by omega) hy1 (by omega) (by omega), HS.out, show ((256 : Int) ^ 1) = 256 from rfl, Int.mul_comm 256 y]
      · refine ⟨⟨3, by omega, ?_, rfl, HR1.out, HG1.out⟩, by simp [intOf]; omega⟩
        rw [or_shift 16 65536 x y rfl hb11 (by omega) hy1 (by omega) (by omega), HS.out, show ((256 : Int) ^ 2) = 65536 from rfl, Int.mul_comm 65536 y]
      · refine ⟨⟨4, by omega, ?_, rfl, HR1.out, HG1.out⟩, by simp [intOf]; omega⟩
        rw [or_shift 24 16777216 x y rfl hb11 (by omega) hy1 (by omega) (by omega), HS.out, show ((256 : Int) ^ 3) = 16777216 from rfl, Int.mul_comm 16777216 y]
      · refine ⟨⟨5, by omega, ?_, rfl, HR1.out, HG1.out⟩, by simp [intOf]; omega⟩
        rw [or_shift 32 4294967296 x y rfl hb11 (by omega) hy1 (by omega) (by omega), HS.out, show ((256 : Int) ^ 4) = 4294967296 from rfl, Int.mul_comm 4294967296 y]
      · refine ⟨⟨6, by omega, ?_, rfl, HR1.out, HG1.out⟩, by simp [intOf]; omega⟩
        rw [or_shift 40 1099511627776 x y rfl hb11 (by omega) hy1 (by omega) (by omega), HS.out, show ((256 : Int) ^ 5) = 1099511627776 from rfl, Int.mul_comm 1099511627776 y]
      · refine ⟨⟨7, by omega, ?_, rfl, HR1.out, HG1.out⟩, by simp [intOf]; omega⟩
        rw [or_shift 48 281474976710656 x y rfl hb11 (by omega) hy1 (by omega) (by omega), HS.out, show ((256 : Int) ^ 6) = 281474976710656 from rfl, Int.mul_comm 281474976710656 y]
      · refine ⟨⟨8, by omega, ?_, rfl, HR1.out, HG1.out⟩, by simp [intOf]; omega⟩
        rw [or_shift 56 72057594037927936 x y rfl hb11 (by omega) hy1 (by omega) (by omega), HS.out, show ((256 : Int) ^ 7) = 72057594037927936 from rfl, Int.mul_comm 72057594037927936 y]
    · have hkn' : k = n := by omega
      subst hkn'
      go_wp2_with fail
      go_ret
      exact ⟨rfl, HRk.out, HGk.out⟩

end Go.Proofs.Ythekickjjaleaac

/- The slots of the program's caches: an entry's cells in another order. No program is named here. -/
namespace Go.Proofs.Ythekickjjaleaac
open Go.RowKit
set_option linter.unusedVariables false

def slotC (e : EntM) : List Value := [.int .i64 e.level, .int .u64 e.tag, .int .u64 e.asid, .bool e.glob, .bool e.valid, .int .u64 e.pte]
def slotV (e : EntM) : Value := .agg #[.int .i64 e.level, .int .u64 e.tag, .int .u64 e.asid, .bool e.glob, .bool e.valid, .int .u64 e.pte]

def slotsC : List EntM → List Value
  | [] => []
  | e :: r => slotC e ++ slotsC r

theorem slotsC_len : ∀ es : List EntM, (slotsC es).length = es.length * 6
  | [] => rfl
  | e :: r => by simp [slotsC, slotC, slotsC_len r]; omega

theorem slotsC_at : ∀ (es : List EntM) (i j : Nat) (hi : i < es.length), j < 6 → (slotsC es)[i * 6 + j]? = (slotC es[i])[j]?
  | e :: r, 0, j, hi, hj => by
    simp only [slotsC, List.getElem_cons_zero, Nat.zero_mul, Nat.zero_add]
    rw [List.getElem?_append_left (by simp [slotC]; exact hj)]
  | e :: r, i + 1, j, hi, hj => by
    simp only [slotsC, List.getElem_cons_succ]
    rw [List.getElem?_append_right (by simp [slotC]; omega)]
    rw [show (i + 1) * 6 + j - (slotC e).length = i * 6 + j by simp [slotC]; omega]
    exact slotsC_at r i j (by simpa using hi) hj

theorem slotsC_set : ∀ (l : List EntM) (k : Nat) (e : EntM), k < l.length → slotsC (l.set k e) = ((((((slotsC l).set (k * 6) (.int .i64 e.level)).set (k * 6 + 1) (.int .u64 e.tag)).set (k * 6 + 2) (.int .u64 e.asid)).set (k * 6 + 3) (.bool e.glob)).set (k * 6 + 4) (.bool e.valid)).set (k * 6 + 5) (.int .u64 e.pte)
  | x :: r, 0, e, h => by simp [slotsC, slotC]
  | x :: r, k + 1, e, h => by
    have ih := slotsC_set r k e (by simpa using h)
    rw [List.set_cons_succ]
    simp only [slotsC, ih]
    rw [show (k + 1) * 6 = (slotC x).length + k * 6 by simp [slotC]; omega]
    simp only [Nat.add_assoc]
    rw [List.set_append_right _ _ (by simp [slotC]), List.set_append_right _ _ (by omega), List.set_append_right _ _ (by omega), List.set_append_right _ _ (by omega), List.set_append_right _ _ (by omega), List.set_append_right _ _ (by omega)]
    simp

/-- The first k entries, the rest empty. -/
def firstN (k n : Nat) (es : List EntM) : List EntM := es.take k ++ List.replicate (n - k) ent0

theorem firstN_len (k : Nat) (es : List EntM) (hk : k ≤ es.length) : (firstN k es.length es).length = es.length := by
  simp [firstN]; omega

theorem firstN_next (k : Nat) (es : List EntM) (x : EntM) (hx : es[k]? = some x) : firstN (k + 1) es.length es = (firstN k es.length es).set k x := by
  obtain ⟨hk, rfl⟩ := List.getElem?_eq_some_iff.1 hx
  unfold firstN
  apply List.ext_getElem?
  intro j
  rw [List.getElem?_set]
  by_cases hj : k = j
  · subst hj
    rw [if_pos rfl, if_pos (by simp; omega), List.getElem?_append_left (by simp; omega)]
    simp [hk]
  · rw [if_neg hj]
    by_cases hlt : j < k
    · rw [List.getElem?_append_left (by simp; omega), List.getElem?_append_left (by simp; omega)]
      simp [hlt, show j < k + 1 by omega]
    · rw [List.getElem?_append_right (by simp; omega), List.getElem?_append_right (by simp; omega)]
      simp only [List.length_take, List.getElem?_replicate]
      rw [show min (k + 1) es.length = k + 1 by omega, show min k es.length = k by omega]
      by_cases hh : j < es.length
      · rw [if_pos (by omega), if_pos (by omega)]
      · rw [if_neg (by omega), if_neg (by omega)]

theorem firstN_zero (k : Nat) (es : List EntM) (hx : es[k]? = some ent0) : firstN (k + 1) es.length es = firstN k es.length es := by
  rw [firstN_next k es ent0 hx]
  have hk : k < es.length := (List.getElem?_eq_some_iff.1 hx).1
  apply List.ext_getElem?
  intro j
  rw [List.getElem?_set]
  by_cases hj : k = j
  · subst hj
    rw [if_pos rfl, if_pos (by rw [firstN_len _ _ (by omega)]; exact hk)]
    unfold firstN
    rw [List.getElem?_append_right (by simp; omega)]
    simp only [List.length_take, List.getElem?_replicate]
    rw [if_pos (by omega)]
  · rw [if_neg hj]

theorem firstN_all (es : List EntM) : firstN es.length es.length es = es := by
  simp [firstN]

theorem firstN_start (n : Nat) (es : List EntM) : firstN 0 n es = List.replicate n ent0 := by simp [firstN]

theorem belS6 {B : Nat} {a w : World} {g : Nat} (h : Below B a w) (hg : B ≤ g) (x y z u v t : Value) : Below B a ((((((w.setCell ⟨g, 0, none⟩ x).setCell ⟨g, 1, none⟩ y).setCell ⟨g, 2, none⟩ z).setCell ⟨g, 3, none⟩ u).setCell ⟨g, 4, none⟩ v).setCell ⟨g, 5, none⟩ t) :=
  (((bel3 h hg x y z).setCell (p := ⟨g, 3, none⟩) hg u).setCell (p := ⟨g, 4, none⟩) hg v).setCell (p := ⟨g, 5, none⟩) hg t

theorem six_at {v : World} {p : Nat} {T : TypeId} {a b c d e f : Value} (h : v.heap[p]? = some (.cells #[a, b, c, d, e, f] T (0, 0))) :
    (v.cell? ⟨p, 0, none⟩ = some a ∧ v.cell? ⟨p, 1, none⟩ = some b ∧ v.cell? ⟨p, 2, none⟩ = some c ∧ v.cell? ⟨p, 3, none⟩ = some d ∧ v.cell? ⟨p, 4, none⟩ = some e ∧ v.cell? ⟨p, 5, none⟩ = some f) ∧
      (v.frozen? ⟨p, 0, none⟩ = false ∧ v.frozen? ⟨p, 1, none⟩ = false ∧ v.frozen? ⟨p, 2, none⟩ = false ∧ v.frozen? ⟨p, 3, none⟩ = false ∧ v.frozen? ⟨p, 4, none⟩ = false ∧ v.frozen? ⟨p, 5, none⟩ = false) := by
  simp [World.cell?, World.frozen?, h]

end Go.Proofs.Ythekickjjaleaac

/- A row of empty entries that is made; entries that are copied. -/
namespace Go.Proofs.Ythekickjjaleaac
open Go.RowKit
set_option linter.unusedVariables false

theorem made_ents (z : EntM) (n : Nat) : (madeCells (entC z).toArray (n * 6)).toList = entsC (List.replicate n z) := by
  apply List.ext_getElem?
  intro j
  by_cases hj : j < n * 6
  · have hq : j / 6 < (List.replicate n z).length := by simp; omega
    have := entsC_at (List.replicate n z) (j / 6) (j % 6) hq (by omega)
    rw [show j / 6 * 6 + j % 6 = j by omega] at this
    rw [this]
    have h6 : j % 6 < (entC z).length := by simp [entC]; omega
    simp only [madeCells, List.getElem_replicate]
    rw [List.getElem?_eq_getElem h6]
    simp [hj, entC]
    rw [List.getElem?_eq_getElem (by simpa [entC] using h6)]
    rfl
  · rw [List.getElem?_eq_none (by simp [madeCells]; omega), List.getElem?_eq_none (by rw [entsC_len]; simp; omega)]

theorem makeE (n : Nat) (hn : n ≤ 1048576) : ∃ cs : Array Value, cs.toList = entsC (List.replicate n ent0) ∧ ∀ u : World, (Instr.makeSlice 25 (.int .i64 (n : Int)) (.int .i64 (n : Int))).run Try.prog u = .ok (.slice (some ⟨u.heap.size, 0, none⟩) n n) (u.alloc (.cells cs 91)) := by
  obtain ⟨i0, hi, hz0, hz1, hz2⟩ := info_parts Try.infoEnt
  refine ⟨madeCells (Value.agg #[.bool false, .int .i64 0, .int .u64 0, .int .u64 0, .bool false, .int .u64 0]).cells (n * 6), ?_, fun u => ?_⟩
  · exact made_ents ent0 n
  · have := run_make (P := Try.prog) u 25 91 i0 _ Try.underlying25 hi hz0 .i64 .i64 n n (by omega) (Int.le_refl _) (by rw [hz2]; omega) (by omega)
    rw [hz1] at this
    simpa using this

end Go.Proofs.Ythekickjjaleaac

/- Plain mathematics of scripts: what is decoded is a valid hart. No program, no memory. -/
namespace Go.Proofs.Ythekickjjaleaac
set_option linter.unusedVariables false

theorem empty_shape (y : Int) : ((emptyM y).sets = 1 ∨ (emptyM y).sets = 2 ∨ (emptyM y).sets = 4 ∨ (emptyM y).sets = 8) ∧ (1 ≤ (emptyM y).ways ∧ (emptyM y).ways ≤ 4) ∧ ((emptyM y).es.length : Int) = (emptyM y).sets * (emptyM y).ways ∧ (emptyM y).es.length ≤ 32 := by
  have hm : y % 4 = 0 ∨ y % 4 = 1 ∨ y % 4 = 2 ∨ y % 4 = 3 := by omega
  have hw : y / 4 % 4 = 0 ∨ y / 4 % 4 = 1 ∨ y / 4 % 4 = 2 ∨ y / 4 % 4 = 3 := by omega
  unfold emptyM
  rcases hm with h | h | h | h <;> rcases hw with k | k | k | k <;> rw [h, k] <;> simp only [List.length_replicate] <;> decide

theorem empty_ok (y : Int) : tlbOk (emptyM y) := by
  obtain ⟨h1, h2, h3, h4⟩ := empty_shape y
  refine ⟨?_, by omega, by omega, by omega⟩
  intro e he
  unfold emptyM at he
  have := (List.mem_replicate.1 he).2
  subst this
  simp [entOk, ent0]

theorem empty_valid (y : Int) (p : Bool) : validM (emptyM y) p = true := by
  obtain ⟨h1, h2, h3, h4⟩ := empty_shape y
  unfold validM
  rw [Bool.and_eq_true]
  refine ⟨by simp only [shapeM, decide_eq_true_eq]; exact ⟨h1, h2.1, h2.2, h3⟩, placesM_true _ p _ 0 (fun j x hx => ?_)⟩
  have hm : x ∈ (emptyM y).es := List.mem_of_getElem? hx
  unfold emptyM at hm
  have := (List.mem_replicate.1 hm).2
  subst this
  simp [placeM, ent0]

theorem lay_ok (b : List Int) (hb : ∀ i : Nat, 0 ≤ b[i]?.getD 0 ∧ b[i]?.getD 0 ≤ 255) : ∀ (m i a : Nat) (mem : List Int), (∀ z ∈ mem, 0 ≤ z ∧ z ≤ 255) → (layM b m i a mem).length = mem.length ∧ ∀ z ∈ layM b m i a mem, 0 ≤ z ∧ z ≤ 255
  | 0, i, a, mem, h => ⟨rfl, h⟩
  | m + 1, i, a, mem, h => by
    rw [layM]
    split
    · have := lay_ok b hb m (i + 1) (a + 1) (mem.set a (atM b i)) (fun z hz => by
        rcases List.mem_or_eq_of_mem_set hz with hz | rfl
        · exact h z hz
        · exact hb i)
      rw [List.length_set] at this
      exact this
    · exact lay_ok b hb m (i + 1) (a + 1) mem h

theorem runs_ok (b : List Int) (hb : ∀ i : Nat, 0 ≤ b[i]?.getD 0 ∧ b[i]?.getD 0 ≤ 255) : ∀ (n i : Nat) (mem : List Int), (∀ z ∈ mem, 0 ≤ z ∧ z ≤ 255) → (runsM b n i mem).1.length = mem.length ∧ ∀ z ∈ (runsM b n i mem).1, 0 ≤ z ∧ z ≤ 255
  | 0, i, mem, h => ⟨rfl, h⟩
  | n + 1, i, mem, h => by
    have h1 := lay_ok b hb (atM b (i + 2)).toNat (i + 3) (addrM b i) mem h
    have h2 := runs_ok b hb n (i + 3 + (atM b (i + 2)).toNat) _ h1.2
    rw [runsM]
    exact ⟨h2.1.trans h1.1, h2.2⟩

theorem long_bd {zs : List Int} (h : ∀ i : Nat, 0 ≤ zs[i]?.getD 0 ∧ zs[i]?.getD 0 ≤ 255) (i : Nat) : inU (longM zs i) := by
  unfold longM
  have := num_bd ((List.range 8).map fun k => atM zs (i + k)) 8 (fun z hz => by
    simp only [List.mem_map] at hz
    obtain ⟨j, _, rfl⟩ := hz
    exact h _) (by simp)
  unfold inU
  omega

/-- What is decoded is a valid hart. -/
theorem dec_hok {zs : List Int} (h : ∀ i : Nat, 0 ≤ zs[i]?.getD 0 ∧ zs[i]?.getD 0 ≤ 255) : HOk (decodeHM zs) := by
  have h3 := h 3
  have hm := runs_ok zs h (atM zs 87).toNat 88 (List.replicate (64 * (1 + (atM zs 3 % 64).toNat)) 0) (fun z hz => by rw [(List.mem_replicate.1 hz).2]; omega)
  rw [List.length_replicate] at hm
  have hmode : 0 ≤ modeM (atM zs 4) ∧ modeM (atM zs 4) ≤ 2 := by
    unfold modeM
    split <;> omega
  have hsat : schemeM (if schemeM (longM zs 23) = true then longM zs 23 else 0) = true := by
    split
    · assumption
    · rfl
  refine ⟨(valid_iff _).2 ⟨?_, ?_, ?_, hmode, hmode, hsat, ?_, ?_, ?_⟩, ?_, ?_, long_bd h 7, ?_, ?_, ?_, ?_, ⟨empty_ok _, empty_ok _, empty_ok _⟩⟩
  · show sizeM (memM zs).1.length = true
    unfold memM
    rw [hm.1]
    simp only [sizeM, decide_eq_true_eq]
    have : (atM zs 3 % 64).toNat ≤ 63 := by omega
    omega
  · simp [decodeHM, regsM]
  · rfl
  · show (longM zs 15 / 4 * 4) % 4 = 0
    omega
  · show 0 ≤ (0 : Int) ∧ (0 : Int) ≤ 63
    omega
  · show goodKM ⟨emptyM (atM zs 0), emptyM (atM zs 1), emptyM (atM zs 2)⟩ = true
    simp only [goodKM, empty_valid, Bool.and_self]
  · show bytesOk (memM zs).1
    intro i
    unfold memM
    cases hx : (runsM zs (atM zs 87).toNat 88 (List.replicate (64 * (1 + (atM zs 3 % 64).toNat)) 0)).1[i]? with
    | none => exact ⟨by simp, by simp⟩
    | some x =>
      have := hm.2 x (List.mem_of_getElem? hx)
      simpa using this
  · show numsOk (regsM zs)
    intro i
    cases hx : (regsM zs)[i]? with
    | none => exact ⟨by simp, by simp⟩
    | some x =>
      have hmem := List.mem_of_getElem? hx
      simp only [regsM, List.mem_cons, List.mem_map] at hmem
      have : inU x := by
        rcases hmem with rfl | ⟨j, _, rfl⟩
        · simp [inU]
        · exact long_bd h _
      simpa [inU] using this
  · show inU (if schemeM (longM zs 23) = true then longM zs 23 else 0)
    split
    · exact long_bd h 23
    · simp [inU]
  · show inU (longM zs 15 / 4 * 4)
    have := long_bd h 15
    unfold inU at this ⊢
    omega
  · show inU 0
    simp [inU]
  · show inU 0
    simp [inU]

end Go.Proofs.Ythekickjjaleaac
