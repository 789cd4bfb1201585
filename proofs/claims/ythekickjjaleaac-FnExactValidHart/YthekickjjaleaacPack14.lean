import Derived.Test.YthekickjjaleaacPack01
import Derived.Test.YthekickjjaleaacPack08
import Derived.Test.YthekickjjaleaacPack10
import Derived.Test.YthekickjjaleaacPack13
import Derived.Deep.Slices
import Derived.Lib.SmallJoins
import Derived.Test.YthekickjjaleaacPack05
import Derived.Test.YthekickjjaleaacPack11
import Derived.Test.YthekickjjaleaacPack02
import Derived.Laws.CopyRow
import Derived.Laws.CopyOwn
import Derived.Test.YthekickjjaleaacPack03
import Derived.Test.YthekickjjaleaacPack04
/- The laws' helpers over harts and scripts: eqHart, markHart, heldHart, eqScript, markScript, heldScript. -/
namespace Go.Proofs.Ythekickjjaleaac
open Go.RowKit
set_option linter.unusedVariables false
attribute [local go_sem ↓] Go.wp_at_zero Go.wp_at_succ

theorem bel_drewN0 (w : World) (n : Nat) : Below w.heap.size w (w.drewN n) :=
  have h := gb_drewN (gb_refl w none) n
  ⟨h.os, h.tape, h.output, h.size, fun i hi => h.block i hi (by simp)⟩

/-- What is read of a hart's rows. -/
structure HartR (w : World) (p : PtrM) (h : HartM) : Prop where
  mem : Byt w p.am h.mem.length h.mem
  regs : RowC w p.ar h.regs.length 1 (numsC h.regs)
  r1 : RowC w p.a1 h.k.i.es.length 6 (entsC h.k.i.es)
  r2 : RowC w p.a2 h.k.d.es.length 6 (entsC h.k.d.es)
  r3 : RowC w p.a3 h.k.p.es.length 6 (entsC h.k.p.es)

theorem HartR.keep {w w' : World} {p : PtrM} {h : HartM} (k : HartR w p h) (hb : Below w.heap.size w w') : HartR w' p h :=
  ⟨k.mem.keep hb, k.regs.keep hb, k.r1.keep hb, k.r2.keep hb, k.r3.keep hb⟩

/-- The bounds of a hart's rows. -/
structure HartB (h : HartM) : Prop where
  m : h.mem.length ≤ 1048576
  r : h.regs.length ≤ 1048576
  k1 : h.k.i.es.length ≤ 1048576
  k2 : h.k.d.es.length ≤ 1048576
  k3 : h.k.p.es.length ≤ 1048576

theorem heap_own {w w' : World} {g : Nat} {o : Obj} {s : Value} (h : w.heap[g]? = some o) (hg : w.grownBy w' s.ownBlock) (hn : s.ownBlock ≠ some g) : w'.heap[g]? = some o :=
  (hg.block g (Array.getElem?_eq_some_iff.1 h).1 (fun e => hn e.symm)).trans h

theorem own_apart {e e' : TypeId} {size size' base base' n n' : Nat} {w : World} {s s' : Value} {cs cs' : List Value} (h : w.ownsRow base e size s n cs) (h' : w.ownsRow base' e' size' s' n' cs') (he : e ≠ e') : rowsApart s s' := by
  intro g h1 h2
  rcases h'.2 with ⟨h3, _⟩ | ⟨g', cap, cur, h3, _, h4, _⟩
  · rw [h3] at h2; simp [Value.ownBlock] at h2
  · rw [h3] at h2
    simp only [Value.ownBlock] at h2
    have hg : g' = g := Option.some.inj h2
    subst hg
    exact box_own_ne h h4 (Ne.symm he) h1

set_option maxRecDepth 20000 in
set_option maxHeartbeats 1600000 in
theorem eqHart_row (p q : PtrM) (h : HartM) (w : World) (hp : HartR w p h) (hq : HartR w q h) (hb : HartB h) :
    Calls Try.prog 17 #[.agg (hartA p h), .agg (hartA q h)] w fun e w' => e = .returned (.bool true) ∧ Below w.heap.size w w' := by
  have E1 : Hid (∀ u, Below w.heap.size w u → Calls Try.prog 9 #[.slice p.am h.mem.length p.cm, .slice q.am h.mem.length q.cm] u fun e w' => e = .returned (.bool true) ∧ Below u.heap.size u w') := fun u hu => eqByteS_same _ _ _ _ _ h.mem u (hp.mem.keep hu) (hq.mem.keep hu) hb.m
  have E2 : Hid (∀ u, Below w.heap.size w u → Calls Try.prog 43 #[.slice p.ar h.regs.length p.cr, .slice q.ar h.regs.length q.cr] u fun e w' => e = .returned (.bool true) ∧ Below u.heap.size u w') := fun u hu => (eqUint64S_same _ _ _ _ _ h.regs u (hp.regs.keep hu) (hq.regs.keep hu) hb.r).mono (by
    rintro e w' ⟨rfl, n, rfl⟩
    exact ⟨rfl, bel_drewN0 _ _⟩)
  have E3 : Hid (∀ u, Below w.heap.size w u → Calls Try.prog 44 #[.agg (kA p h.k), .agg (kA q h.k)] u fun e w' => e = .returned (.bool true) ∧ Below u.heap.size u w') := fun u hu => eqCaches_row h.k _ _ _ _ _ _ u ⟨_, _, rfl, hp.r1.keep hu⟩ ⟨_, _, rfl, hp.r2.keep hu⟩ ⟨_, _, rfl, hp.r3.keep hu⟩ ⟨_, _, rfl, hq.r1.keep hu⟩ ⟨_, _, rfl, hq.r2.keep hu⟩ ⟨_, _, rfl, hq.r3.keep hu⟩ hb.k1 hb.k2 hb.k3
  clear hp hq hb
  have F := alloc2 w (hartA p h) (hartA q h) 31 31
  have A0 : Hid ((hartA p h)[0]? = some (.slice p.am h.mem.length p.cm)) := by show _ = _; rfl
  have B0 : Hid ((hartA q h)[0]? = some (.slice q.am h.mem.length q.cm)) := by show _ = _; rfl
  have A1 : Hid ((hartA p h)[1]? = some (.slice p.ar h.regs.length p.cr)) := by show _ = _; rfl
  have B1 : Hid ((hartA q h)[1]? = some (.slice q.ar h.regs.length q.cr)) := by show _ = _; rfl
  have A2 : Hid ((hartA p h)[2]? = some (.int .u64 h.pc)) := by show _ = _; rfl
  have B2 : Hid ((hartA q h)[2]? = some (.int .u64 h.pc)) := by show _ = _; rfl
  have A3 : Hid ((hartA p h)[3]? = some (.int .i64 h.mode)) := by show _ = _; rfl
  have B3 : Hid ((hartA q h)[3]? = some (.int .i64 h.mode)) := by show _ = _; rfl
  have A4 : Hid ((hartA p h)[4]? = some (.bool h.sum)) := by show _ = _; rfl
  have B4 : Hid ((hartA q h)[4]? = some (.bool h.sum)) := by show _ = _; rfl
  have A5 : Hid ((hartA p h)[5]? = some (.bool h.mxr)) := by show _ = _; rfl
  have B5 : Hid ((hartA q h)[5]? = some (.bool h.mxr)) := by show _ = _; rfl
  have A6 : Hid ((hartA p h)[6]? = some (.int .u64 h.satp)) := by show _ = _; rfl
  have B6 : Hid ((hartA q h)[6]? = some (.int .u64 h.satp)) := by show _ = _; rfl
  have A7 : Hid ((hartA p h)[7]? = some (.int .u64 h.tvec)) := by show _ = _; rfl
  have B7 : Hid ((hartA q h)[7]? = some (.int .u64 h.tvec)) := by show _ = _; rfl
  have A8 : Hid ((hartA p h)[8]? = some (.int .u64 h.epc)) := by show _ = _; rfl
  have B8 : Hid ((hartA q h)[8]? = some (.int .u64 h.epc)) := by show _ = _; rfl
  have A9 : Hid ((hartA p h)[9]? = some (.int .i64 h.emode)) := by show _ = _; rfl
  have B9 : Hid ((hartA q h)[9]? = some (.int .i64 h.emode)) := by show _ = _; rfl
  have A10 : Hid ((hartA p h)[10]? = some (.int .i64 h.cause)) := by show _ = _; rfl
  have B10 : Hid ((hartA q h)[10]? = some (.int .i64 h.cause)) := by show _ = _; rfl
  have A11 : Hid ((hartA p h)[11]? = some (.int .u64 h.tval)) := by show _ = _; rfl
  have B11 : Hid ((hartA q h)[11]? = some (.int .u64 h.tval)) := by show _ = _; rfl
  have KP : Hid (((hartA p h).toList.drop 12).take 9 = (kA p h.k).toList) := by show _ = _; rfl
  have KQ : Hid (((hartA q h).toList.drop 12).take 9 = (kA q h.k).toList) := by show _ = _; rfl
  have SP : (hartA p h).size = 21 := rfl
  have SQ : (hartA q h).size = 21 := rfl
  have KL : Hid ((kA p h.k).size = 9 ∧ (kA q h.k).size = 9) := ⟨rfl, rfl⟩
  generalize hartA p h = A at *
  generalize hartA q h = B at *
  go_enter Try.func17, Try.ntmps17
  go_upto_region 1 with fail
  generalize (w.alloc (Obj.cells A 31)).alloc (Obj.cells B 31) = u0 at F ⊢
  obtain ⟨f1, f2, hz, n0⟩ := F
  have H1 : Hid _ := f1
  have H2 : Hid _ := f2
  clear f1 f2
  have c0 := box_cell H1.out 0 A0.out
  have d0 := box_cell H2.out 0 B0.out
  go_wp2_with fail
  refine (E1.out u0 n0).mono ?_
  rintro e u1 ⟨rfl, m1⟩
  have n1 := Below.step n0 m1 (Nat.le_refl _)
  replace H1 := hid_keep H1 m1
  replace H2 := hid_keep H2 m1
  clear c0 d0
  have c1 := box_cell H1.out 1 A1.out
  have d1 := box_cell H2.out 1 B1.out
  go_wp2_with fail
  refine (E2.out u1 n1).mono ?_
  rintro e u2 ⟨rfl, m2⟩
  have n2 := Below.step n1 m2 (Nat.le_refl _)
  replace H1 := hid_keep H1 m2
  replace H2 := hid_keep H2 m2
  clear c1 d1
  have c2 := box_cell H1.out 2 A2.out
  have d2 := box_cell H2.out 2 B2.out
  have c3 := box_cell H1.out 3 A3.out
  have d3 := box_cell H2.out 3 B3.out
  have c4 := box_cell H1.out 4 A4.out
  have d4 := box_cell H2.out 4 B4.out
  have c5 := box_cell H1.out 5 A5.out
  have d5 := box_cell H2.out 5 B5.out
  have c6 := box_cell H1.out 6 A6.out
  have d6 := box_cell H2.out 6 B6.out
  have c7 := box_cell H1.out 7 A7.out
  have d7 := box_cell H2.out 7 B7.out
  have c8 := box_cell H1.out 8 A8.out
  have d8 := box_cell H2.out 8 B8.out
  have c9 := box_cell H1.out 9 A9.out
  have d9 := box_cell H2.out 9 B9.out
  have c10 := box_cell H1.out 10 A10.out
  have d10 := box_cell H2.out 10 B10.out
  have c11 := box_cell H1.out 11 A11.out
  have d11 := box_cell H2.out 11 B11.out
  have L1 : Hid _ := box_load (P := Try.prog) (T := 29) H1.out Try.underlying29 rfl (o := 12) (kA p h.k).toList kI KP.out rfl
  have L2 : Hid _ := box_load (P := Try.prog) (T := 29) H2.out Try.underlying29 rfl (o := 12) (kA q h.k).toList kI KQ.out rfl
  rw [show (kA p h.k).toList.toArray = kA p h.k from rfl] at L1
  rw [show (kA q h.k).toList.toArray = kA q h.k from rfl] at L2
  generalize kA p h.k = KA at *
  generalize kA q h.k = KB at *
  go_wp2_with (first | ((with_reducible refine wpl_load ?_ L1.out ?_); (exact rfl)) | ((with_reducible refine wpl_load ?_ L2.out ?_); (exact rfl)))
  refine (E3.out u2 n2).mono ?_
  rintro e u3 ⟨rfl, m3⟩
  have n3 := Below.step n2 m3 (Nat.le_refl _)
  clear c2 d2 c3 d3 c4 d4 c5 d5 c6 d6 c7 d7 c8 d8 c9 d9 c10 d10 c11 d11
  go_wp2_with fail
  go_ret
  exact ⟨rfl, n3⟩

/-- The blocks of five rows. -/
def inHart (sm sr s1 s2 s3 : Value) (i : Nat) : Prop := sm.ownBlock = some i ∨ sr.ownBlock = some i ∨ inRows s1 s2 s3 i

/-- A hart whose rows are of the call's own, no two in one block. -/
structure HartO (base : Nat) (w : World) (p : PtrM) (h : HartM) (cm cr c1 c2 c3 : List Value) : Prop where
  mem : w.ownsRow base 5 1 (.slice p.am h.mem.length p.cm) h.mem.length cm
  regs : w.ownsRow base 24 1 (.slice p.ar h.regs.length p.cr) h.regs.length cr
  r1 : w.ownsRow base 91 6 (.slice p.a1 h.k.i.es.length p.c1) h.k.i.es.length c1
  r2 : w.ownsRow base 91 6 (.slice p.a2 h.k.d.es.length p.c2) h.k.d.es.length c2
  r3 : w.ownsRow base 91 6 (.slice p.a3 h.k.p.es.length p.c3) h.k.p.es.length c3
  d12 : rowsApart (.slice p.a1 h.k.i.es.length p.c1) (.slice p.a2 h.k.d.es.length p.c2)
  d13 : rowsApart (.slice p.a1 h.k.i.es.length p.c1) (.slice p.a3 h.k.p.es.length p.c3)
  d23 : rowsApart (.slice p.a2 h.k.d.es.length p.c2) (.slice p.a3 h.k.p.es.length p.c3)

abbrev hrows (p : PtrM) (h : HartM) : Nat → Prop := inHart (.slice p.am h.mem.length p.cm) (.slice p.ar h.regs.length p.cr) (.slice p.a1 h.k.i.es.length p.c1) (.slice p.a2 h.k.d.es.length p.c2) (.slice p.a3 h.k.p.es.length p.c3)

theorem HartO.keep {base : Nat} {w w' : World} {p : PtrM} {h : HartM} {cm cr c1 c2 c3 : List Value} (k : HartO base w p h cm cr c1 c2 c3) (hb : Below w.heap.size w w') : HartO base w' p h cm cr c1 c2 c3 :=
  ⟨own_below k.mem hb, own_below k.regs hb, own_below k.r1 hb, own_below k.r2 hb, own_below k.r3 hb, k.d12, k.d13, k.d23⟩

theorem HartO.gb {base : Nat} {w w' : World} {p : PtrM} {h : HartM} {cm cr c1 c2 c3 : List Value} {r : Nat} (k : HartO base w p h cm cr c1 c2 c3) (hg : w.grownBy w' (some r)) (hr : r < base) : HartO base w' p h cm cr c1 c2 c3 :=
  ⟨own_gb k.mem hg hr, own_gb k.regs hg hr, own_gb k.r1 hg hr, own_gb k.r2 hg hr, own_gb k.r3 hg hr, k.d12, k.d13, k.d23⟩

theorem HartO.low {base : Nat} {w : World} {p : PtrM} {h : HartM} {cm cr c1 c2 c3 : List Value} (k : HartO base w p h cm cr c1 c2 c3) : ∀ g, hrows p h g → base ≤ g ∧ g < w.heap.size := by
  rintro g (h1 | h1 | h1 | h1 | h1)
  · exact k.mem.lt g h1
  · exact k.regs.lt g h1
  · exact k.r1.lt g h1
  · exact k.r2.lt g h1
  · exact k.r3.lt g h1

theorem HartO.read {base : Nat} {w : World} {p : PtrM} {h : HartM} (k : HartO base w p h (bytC h.mem) (numsC h.regs) (entsC h.k.i.es) (entsC h.k.d.es) (entsC h.k.p.es)) (hz : ∀ i : Nat, 0 ≤ h.mem[i]?.getD 0 ∧ h.mem[i]?.getD 0 ≤ 255) : HartR w p h := by
  refine ⟨?_, row_own k.regs, row_own k.r1, row_own k.r2, row_own k.r3⟩
  rcases own_cases k.mem with ⟨h1, h2, _⟩ | ⟨g, cap, h1⟩
  · exact ⟨rfl, hz, .inl h2⟩
  · have hm := k.mem
    rw [h1] at hm
    have hx : p.am = some ⟨g, 0, none⟩ := by
      simp only [Value.slice.injEq] at h1
      exact h1.1
    rw [hx]
    refine ⟨rfl, hz, .inr ⟨g, 0, rfl, (own_at hm).2.2, fun i hi => ?_⟩⟩
    have := own_cell hm i (.int .u8 (h.mem[i]?.getD 0)) (by simp [bytC, hi])
    simpa using this

end Go.Proofs.Ythekickjjaleaac

/- A cache among a law's arguments, opened: what its value is, what its entries are in memory. -/
namespace Go.Proofs.Ythekickjjaleaac
open Go.ChangeShapes Go.WideShapes Go.RowKit Go.Joins Go.Deep
set_option linter.unusedVariables false

theorem add_at (b off i : Nat) : Addr.add ⟨b, off, none⟩ i = ⟨b, off + i, none⟩ := by
  unfold Addr.add
  split
  · next h => subst h; rfl
  · rfl

theorem row_of_ents {w : World} {a : Addr} {es : List EntM} {n : Nat} (hn : es.length = n) (h : ∀ i (hi : i < es.length) j, j < 6 → w.cell? (a.add (i * 6 + j)) = (entC es[i])[j]?) : RowC w (some a) n 6 (entsC es) := by
  refine ⟨by rw [entsC_len, hn], ?_⟩
  by_cases h0 : n = 0
  · exact .inl h0
  · obtain ⟨b, off, spot⟩ := a
    have hc := h 0 (by omega) 0 (by omega)
    have hc' : w.cell? (Addr.add ⟨b, off, spot⟩ 0) = some (.bool (es[0]'(by omega)).valid) := by simpa [entC] using hc
    have hspot : spot = none := by simpa [Addr.add] using World.cell?_spot hc'
    subst hspot
    refine .inr ⟨b, off, rfl, ?_, fun i v hi => ?_⟩
    · have hc0 : w.cell? ⟨b, off, none⟩ = some (.bool (es[0]'(by omega)).valid) := by simpa [Addr.add] using hc'
      unfold World.cell? at hc0
      split at hc0
      · next he => exact (Array.getElem?_eq_some_iff.1 he).1
      · cases hc0
    · have hlt : i < (entsC es).length := (List.getElem?_eq_some_iff.1 hi).1
      rw [entsC_len] at hlt
      have hq : i / 6 < es.length := by omega
      have := h (i / 6) hq (i % 6) (by omega)
      rw [← entsC_at es (i / 6) (i % 6) hq (by omega), show i / 6 * 6 + i % 6 = i by omega, add_at, hi] at this
      exact this

section
variable {H : Type} {enc : TypeId × Value → H} {P : Program} {w : World} {base : Nat} {spare : Nat → Bool} {held : Bool}

theorem trod_struct6 {t : TypeId} {f0 f1 f2 f3 f4 f5 : Field} {fuel : Nat} {cs : List Value} {x : DataW H × List MemPlace} (ht : P.underlying t = some (.struct #[f0, f1, f2, f3, f4, f5])) (hone : oneCellFields P #[f0, f1, f2, f3, f4, f5] = true) (hC : P.cellsOf t = 6) (h : DataW.trod enc P w base spare held fuel t cs = some x) :
    ∃ c0 c1 c2 c3 c4 c5 y0 y1 y2 y3 y4 y5 n, cs = [c0, c1, c2, c3, c4, c5] ∧ DataW.trod enc P w base spare held n f0.type [c0] = some y0 ∧ DataW.trod enc P w base spare held n f1.type [c1] = some y1 ∧ DataW.trod enc P w base spare held n f2.type [c2] = some y2 ∧
      DataW.trod enc P w base spare held n f3.type [c3] = some y3 ∧ DataW.trod enc P w base spare held n f4.type [c4] = some y4 ∧ DataW.trod enc P w base spare held n f5.type [c5] = some y5 := by
  obtain ⟨xs, n, _, rfl, hl, hlen, hf⟩ := DataW.trod_struct ht h
  rw [hC] at hl
  obtain ⟨o0, k0⟩ := hone_of hone 0 f0 rfl
  obtain ⟨o1, k1⟩ := hone_of hone 1 f1 rfl
  obtain ⟨o2, k2⟩ := hone_of hone 2 f2 rfl
  obtain ⟨o3, k3⟩ := hone_of hone 3 f3 rfl
  obtain ⟨o4, k4⟩ := hone_of hone 4 f4 rfl
  obtain ⟨o5, k5⟩ := hone_of hone 5 f5 rfl
  match cs, hl with
  | [c0, c1, c2, c3, c4, c5], _ =>
    match xs, hlen with
    | [y0, y1, y2, y3, y4, y5], _ =>
      exact ⟨c0, c1, c2, c3, c4, c5, y0, y1, y2, y3, y4, y5, n, rfl, by simpa [o0, k0] using hf 0 f0 rfl, by simpa [o1, k1] using hf 1 f1 rfl, by simpa [o2, k2] using hf 2 f2 rfl, by simpa [o3, k3] using hf 3 f3 rfl, by simpa [o4, k4] using hf 4 f4 rfl, by simpa [o5, k5] using hf 5 f5 rfl⟩
end

theorem ent_open {H : Type} {enc : TypeId × Value → H} {w : World} {base : Nat} {spare : Nat → Bool} {held : Bool} {fuel : Nat} {cs : List Value} {x : DataW H × List MemPlace}
    (h : DataW.trod enc Try.prog w base spare held fuel 133 cs = some x) : ∃ e : EntM, cs = entC e ∧ entOk e := by
  obtain ⟨c0, c1, c2, c3, c4, c5, y0, y1, y2, y3, y4, y5, n, rfl, h0, h1, h2, h3, h4, h5⟩ := trod_struct6 Try.underlying133 (by kernel_rfl) (by kernel_rfl) h
  obtain ⟨b, f0, _⟩ := DataW.trod_bool Try.underlying4 h0
  obtain ⟨l, f1, _, w1⟩ := DataW.trod_int Try.underlying2 h1
  obtain ⟨t, f2, _, w2⟩ := DataW.trod_int Try.underlying24 h2
  obtain ⟨a, f3, _, w3⟩ := DataW.trod_int Try.underlying24 h3
  obtain ⟨g, f4, _⟩ := DataW.trod_bool Try.underlying4 h4
  obtain ⟨p, f5, _, w5⟩ := DataW.trod_int Try.underlying24 h5
  simp at f0 f1 f2 f3 f4 f5
  subst f0 f1 f2 f3 f4 f5
  exact ⟨⟨b, l, t, a, g, p⟩, rfl, bounds_i64 w1, bounds_u64 w2, bounds_u64 w3, bounds_u64 w5⟩

instance : Inhabited EntM := ⟨ent0⟩

theorem ents_open {H : Type} {enc : TypeId × Value → H} {w : World} {base : Nat} {spare : Nat → Bool} {held : Bool} {fuel : Nat} {v : Value} {x : DataW H × List MemPlace}
    (h : DataW.trod enc Try.prog w base spare held fuel 42 [v] = some x) :
    ∃ a cap es, v = .slice a es.length cap ∧ RowC w a es.length 6 (entsC es) ∧ (∀ e ∈ es, entOk e) ∧ es.length ≤ cap ∧ (cap : Int) ≤ 9223372036854775807 := by
  rcases open_slice Try.underlying42 h with ⟨hcs, _⟩ | ⟨a, len, cap, m, n, D, Pl, hcs, _, hl, hm, hmm, _, hx⟩
  · simp at hcs
    subst hcs
    exact ⟨none, 0, [], rfl, RowC.nil _ _ _, by simp, by simp, by simp⟩
  · simp at hcs
    subst hcs
    have hlm : len ≤ m := by rw [hmm]; split <;> omega
    rw [show Try.prog.cellsOf 133 = 6 from by kernel_rfl] at hx
    obtain ⟨E, hE⟩ := choose_lt (α := EntM) (n := len) (p := fun i e => (∀ j, j < 6 → w.cell? (a.add (i * 6 + j)) = (entC e)[j]?) ∧ entOk e) (fun i hi => by
      obtain ⟨cs', h1, h2⟩ := hx i (by omega)
      obtain ⟨e, rfl, he⟩ := ent_open h2
      obtain ⟨_, _, h3⟩ := World.cells?_some h1
      exact ⟨e, fun j hj => by rw [← add_add]; exact h3 j hj, he⟩)
    refine ⟨some a, cap, (List.range len).map E, by simp, row_of_ents rfl (fun i hi j hj => ?_), ?_, by simpa using hl, by unfold maxLen at hm; omega⟩
    · simp only [List.getElem_map, List.getElem_range]
      exact (hE i (by simpa using hi)).1 j hj
    · intro e he
      simp at he
      obtain ⟨i, hi, rfl⟩ := he
      exact (hE i hi).2

theorem cellsT : Try.prog.cellsOf 44 = 3 := by kernel_rfl

end Go.Proofs.Ythekickjjaleaac

/- An argument of three caches, opened. -/
namespace Go.Proofs.Ythekickjjaleaac
open Go.RowKit Go.Joins Go.ChangeShapes Go.WideShapes Go.ChangeAt
set_option linter.unusedVariables false

/-- What is known of a cache that was handed in. -/
def tlbIn (w : World) (t : TlbM) (a : Option Addr) (cap : Nat) : Prop :=
  RowC w a t.es.length 6 (entsC t.es) ∧ (∀ e ∈ t.es, entOk e) ∧ (-9223372036854775808 ≤ t.sets ∧ t.sets ≤ 9223372036854775807) ∧ (-9223372036854775808 ≤ t.ways ∧ t.ways ≤ 9223372036854775807) ∧ t.es.length ≤ cap ∧ (cap : Int) ≤ 9223372036854775807

theorem list3 {α : Type} {cs : List α} (h : cs.length = 3) : ∃ c0 c1 c2, cs = [c0, c1, c2] := by
  match cs, h with
  | [c0, c1, c2], _ => exact ⟨c0, c1, c2, rfl⟩

set_option maxRecDepth 100000 in
theorem tlb_cells {H : Type} {enc : TypeId × Value → H} {w : World} {base : Nat} {spare : Nat → Bool} {held : Bool} {fuel : Nat} {cs : List Value} {x : DataW H × List MemPlace}
    (h : DataW.trod enc Try.prog w base spare held fuel 44 cs = some x) : ∃ t a cap, cs = [.int .i64 t.sets, .int .i64 t.ways, .slice a t.es.length cap] ∧ tlbIn w t a cap := by
  obtain ⟨y0, y1, y2, n, _, hl, h0, h1, h2⟩ := Go.Deep.trod_struct3 Try.underlying44 h
  rw [cellsT] at hl
  obtain ⟨c0, c1, c2, rfl⟩ := list3 hl
  have h0' : DataW.trod enc Try.prog w base spare held n 2 [c0] = some y0 := h0
  have h1' : DataW.trod enc Try.prog w base spare held n 2 [c1] = some y1 := h1
  have h2' : DataW.trod enc Try.prog w base spare held n 42 [c2] = some y2 := h2
  obtain ⟨s, f0, _, w0⟩ := DataW.trod_int Try.underlying2 h0'
  obtain ⟨y, f1, _, w1⟩ := DataW.trod_int Try.underlying2 h1'
  simp at f0 f1
  subst f0 f1
  obtain ⟨a, cap, es, rfl, hr, ho, hl, hm⟩ := ents_open h2'
  exact ⟨⟨s, y, es⟩, a, cap, rfl, hr, ho, bounds_i64 w0, bounds_i64 w1, hl, hm⟩

end Go.Proofs.Ythekickjjaleaac

/- The program's scripts: the reader of bytes. -/
namespace Go.Proofs.Ythekickjjaleaac
open Go.RowKit
set_option linter.unusedVariables false
attribute [local go_sem ↓] Go.wp_at_zero Go.wp_at_succ

theorem Byt.gb0 {w w' : World} {a : Option Addr} {len r : Nat} {zs : List Int} (h : Byt w a len zs) (hg : w.grownBy w' (some r)) (hne : 0 < len → ∀ q, a = some q → q.block ≠ r) : Byt w' a len zs := by
  rcases Nat.eq_zero_or_pos len with h0 | h0
  · exact ⟨h.1, h.2.1, .inl h0⟩
  · exact h.gb' hg (hne h0)

/-- A reader at position p of the bytes zs. -/
structure RdAt (w : World) (b : Nat) (a : Option Addr) (len cap : Nat) (zs : List Int) (p : Nat) : Prop where
  box : w.heap[b]? = some (.cells #[.slice a len cap, .int .i64 ((min p len : Nat) : Int)] 59 (0, 0))
  byt : Byt w a len zs
  ne : 0 < len → ∀ q, a = some q → q.block ≠ b
  len : len ≤ 1048576

theorem RdAt.lt {w : World} {b : Nat} {a : Option Addr} {len cap : Nat} {zs : List Int} {p : Nat} (h : RdAt w b a len cap zs p) : b < w.heap.size := (Array.getElem?_eq_some_iff.1 h.box).1

theorem RdAt.keep {w w' : World} {b : Nat} {a : Option Addr} {len cap : Nat} {zs : List Int} {p : Nat} (h : RdAt w b a len cap zs p) (hn : Below w.heap.size w w') : RdAt w' b a len cap zs p :=
  ⟨heap_keep h.box hn h.lt, h.byt.keep hn, h.ne, h.len⟩

theorem RdAt.gb {w w' : World} {b r : Nat} {a : Option Addr} {len cap : Nat} {zs : List Int} {p : Nat} (h : RdAt w b a len cap zs p) (hg : w.grownBy w' (some r)) (hb : b ≠ r) (ha : 0 < len → ∀ q, a = some q → q.block ≠ r) : RdAt w' b a len cap zs p :=
  ⟨heap_gb h.box hg hb, h.byt.gb0 hg ha, h.ne, h.len⟩

theorem RdAt.off {w : World} {b r : Nat} {a : Option Addr} {len cap : Nat} {zs : List Int} {p : Nat} (h : RdAt w b a len cap zs p) (hr : w.heap.size ≤ r) : 0 < len → ∀ q, a = some q → q.block ≠ r := by
  intro h0 q hq
  rcases h.byt.2.2 with h1 | ⟨g, off, e, hlt, _⟩
  · omega
  · rw [e] at hq
    cases hq
    simp only
    omega

theorem RdAt.step {w w' : World} {b : Nat} {a : Option Addr} {len cap : Nat} {zs : List Int} {p p' : Nat} (h : RdAt w b a len cap zs p) (hg : w.grownBy w' (some b)) (hb : w'.heap[b]? = some (.cells #[.slice a len cap, .int .i64 ((min p' len : Nat) : Int)] 59 (0, 0))) : RdAt w' b a len cap zs p' :=
  ⟨hb, h.byt.gb0 hg h.ne, h.ne, h.len⟩

set_option maxHeartbeats 800000 in
theorem next_any (b len cap p : Nat) (a : Option Addr) (zs : List Int) (w : World) (h : RdAt w b a len cap zs p) :
    Calls Try.prog 23 #[.pointer (some ⟨b, 0, none⟩)] w fun e w' => e = .returned (.int .u8 (atM zs p)) ∧ RdAt w' b a len cap zs (p + 1) ∧ w.grownBy w' (some b) := by
  have HR : Hid (RdAt w b a len cap zs p) := h
  have c0 := box_cell h.box 0 (show (#[Value.slice a len cap, .int .i64 ((min p len : Nat) : Int)] : Array Value)[0]? = some (.slice a len cap) from rfl)
  have c1 := box_cell h.box 1 (show (#[Value.slice a len cap, .int .i64 ((min p len : Nat) : Int)] : Array Value)[1]? = some (.int .i64 ((min p len : Nat) : Int)) from rfl)
  have f1 := box_free h.box 1
  have hl := h.len
  by_cases hp : p < len
  · have hm : min p len = p := by omega
    rw [hm] at c1
    rcases h.byt.2.2 with h3 | ⟨g, off, rfl, hgw, hc⟩
    · omega
    have g1 := hc p hp
    have g2 := h.byt.2.1 p
    have hne : g ≠ b := h.ne (by omega) ⟨g, off, none⟩ rfl
    have HZ : Hid (atM zs p = zs[p]?.getD 0) := rfl
    rw [HZ.out]
    generalize zs[p]?.getD 0 = z at g1 g2 ⊢
    obtain ⟨g21, g22⟩ := g2
    clear hc h hm HZ
    go_enter Try.func23, Try.ntmps23
    go_wp2_with fail
    go_quiet (fail)
    rename Nat => nq'
    go_wp2_with fail
    go_quiet (fail)
    go_wp2_with fail
    go_ret
    have hg := gb_set (gb_drewN (gb_refl w (some b)) (nq' + nq)) 1 (.int .i64 ((p : Int) + 1))
    refine ⟨rfl, HR.out.step hg ?_, hg⟩
    have := box_set (w := w.drewN (nq' + nq)) HR.out.box 1 (.int .i64 ((p : Int) + 1))
    rw [show min (p + 1) len = p + 1 by omega]
    exact this
  · have hm : min p len = len := by omega
    have HZ : Hid (atM zs p = 0) := by
      show zs[p]?.getD 0 = 0
      rw [List.getElem?_eq_none (by rw [h.byt.1]; omega)]
      rfl
    rw [HZ.out]
    rw [hm] at c1
    clear HZ h hm
    go_enter Try.func23, Try.ntmps23
    go_wp2_with fail
    go_quiet (fail)
    go_wp2_with fail
    go_ret
    have hg := gb_drewN (gb_refl w (some b)) nq
    refine ⟨rfl, HR.out.step hg ?_, hg⟩
    rw [show min (p + 1) len = min p len by omega]
    exact HR.out.box

def numM (zs : List Int) (p k : Nat) : Int := num ((List.range k).map fun j => atM zs (p + j))

theorem numM_bd {zs : List Int} (h : ∀ i : Nat, 0 ≤ zs[i]?.getD 0 ∧ zs[i]?.getD 0 ≤ 255) (p k : Nat) : 0 ≤ numM zs p k ∧ numM zs p k < 256 ^ k :=
  num_bd _ k (fun z hz => by
    simp only [List.mem_map] at hz
    obtain ⟨j, _, rfl⟩ := hz
    exact h _) (by simp)

theorem numM_succ (zs : List Int) (p k : Nat) : numM zs p (k + 1) = numM zs p k + 256 ^ k * atM zs (p + k) := by
  unfold numM
  rw [range_snoc, num_append]
  simp [num]

set_option maxHeartbeats 1600000 in
theorem number_any (b len cap p n : Nat) (a : Option Addr) (zs : List Int) (w : World) (h : RdAt w b a len cap zs p) (hn : n ≤ 8) :
    Calls Try.prog 25 #[.pointer (some ⟨b, 0, none⟩), .int .i64 n] w fun e w' => e = .returned (.int .u64 (numM zs p n)) ∧ RdAt w' b a len cap zs (p + n) ∧ w.grownBy w' (some b) := by
  have HR : Hid (RdAt w b a len cap zs p) := h
  have HBd : Hid (∀ i : Nat, 0 ≤ zs[i]?.getD 0 ∧ zs[i]?.getD 0 ≤ 255) := h.byt.2.1
  clear h
  go_enter Try.func25, Try.ntmps25
  go_wp2_with fail
  go_loopw [5, 8] (fun vv iv wr => ∃ (k : Nat), k ≤ n ∧ vv = .int .u64 (numM zs p k) ∧ iv = .int .i64 k ∧ RdAt wr b a len cap zs (p + k) ∧ w.grownBy wr (some b)) (fun _ iv _ => n - (intOf iv).toNat)
  case atStart => exact ⟨0, Nat.zero_le _, rfl, rfl, HR.out, gb_refl _ _⟩
  case round =>
    obtain ⟨k, hk, rfl, rfl, hR, hG⟩ := hrel
    have HRk : Hid _ := hR
    have HGk : Hid _ := hG
    clear hR hG
    by_cases hkn : k < n
    · have hb1 := numM_bd HBd.out p k
      have hy := HBd.out (p + k)
      have HS : Hid _ := numM_succ zs p k
      have HY : Hid (atM zs (p + k) = zs[p + k]?.getD 0) := rfl
      rw [← HY.out] at hy
      obtain ⟨x, hx⟩ : ∃ x, numM zs p k = x := ⟨_, rfl⟩
      obtain ⟨y, hyy⟩ : ∃ y, atM zs (p + k) = y := ⟨_, rfl⟩
      have HYy : Hid _ := hyy
      rw [hx, hyy] at HS
      rw [hx] at hb1 ⊢
      rw [hyy] at hy
      obtain ⟨hb11, hb12⟩ := hb1
      obtain ⟨hy1, hy2⟩ := hy
      clear hx hyy
      have hcs : k = 0 ∨ k = 1 ∨ k = 2 ∨ k = 3 ∨ k = 4 ∨ k = 5 ∨ k = 6 ∨ k = 7 := by omega
      rcases hcs with rfl | rfl | rfl | rfl | rfl | rfl | rfl | rfl
      all_goals
        go_wp2_with fail
        refine (next_any b len cap _ a zs wr HRk.out).mono ?_
        rintro e v1 ⟨rfl, hR1, hG1⟩
        have HG1 : Hid _ := gb_trans HGk.out hG1
        have HR1 : Hid _ := hR1
        rw [HYy.out]
        clear hR1 hG1
        go_wp2_with fail
      · refine ⟨⟨1, by omega, ?_, rfl, HR1.out, HG1.out⟩, by simp [intOf]; omega⟩
        have e := or_shift 0 1 x y rfl hb11 (by omega) hy1 (by omega) (by omega)
        rw [Int.mul_one] at e
        rw [e, HS.out, show ((256 : Int) ^ 0) = 1 from rfl, Int.one_mul]
      · refine ⟨⟨2, by omega, ?_, rfl, HR1.out, HG1.out⟩, by simp [intOf]; omega⟩
        rw [or_shift 8 256 x y rfl hb11 (by omega) hy1 (by omega) (by omega), HS.out, show ((256 : Int) ^ 1) = 256 from rfl, Int.mul_comm 256 y]
      · refine ⟨⟨3, by omega, ?_, rfl, HR1.out, HG1.out⟩, by simp [intOf]; omega⟩
        rw [or_shift 16 65536 x y rfl hb11 (by omega) hy1 (by omega) (by omega), HS.out, show ((256 : Int) ^ 2) = 65536 from rfl, Int.mul_comm 65536 y]
      · refine ⟨⟨4, by omega, ?_, rfl, HR1.out, HG1.out⟩, by simp [intOf]; omega⟩
        rw [or_shift 24 16777216 x y rfl hb11 (by omega) hy1 (by omega) (by omega), HS.out, show ((256 : Int) ^ 3) = 16777216 from rfl, Int.mul_comm 16777216 y]
      · refine ⟨⟨5, by omega, ?_, rfl, HR1.out, HG1.out⟩, by simp [intOf]; omega⟩
        rw [or_shift 32 4294967296 x y rfl hb11 (by omega) hy1 (by omega) (by omega), HS.out, show ((256 : Int) ^ 4) = 4294967296 from rfl, Int.mul_comm 4294967296 y]
      · refine ⟨⟨6, by omega, ?_, rfl, HR1.out, HG1.out⟩, by simp [intOf]; omega⟩
        rw [or_shift 40 1099511627776 x y rfl hb11 (by omega) hy1 (by omega) (by omega), HS.out, show ((256 : Int) ^ 5) = 1099511627776 from rfl, Int.mul_comm 1099511627776 y]
      · refine ⟨⟨7, by omega, ?_, rfl, HR1.out, HG1.out⟩, by simp [intOf]; omega⟩
        rw [or_shift 48 281474976710656 x y rfl hb11 (by omega) hy1 (by omega) (by omega), HS.out, show ((256 : Int) ^ 6) = 281474976710656 from rfl, Int.mul_comm 281474976710656 y]
      · refine ⟨⟨8, by omega, ?_, rfl, HR1.out, HG1.out⟩, by simp [intOf]; omega⟩
        rw [or_shift 56 72057594037927936 x y rfl hb11 (by omega) hy1 (by omega) (by omega), HS.out, show ((256 : Int) ^ 7) = 72057594037927936 from rfl, Int.mul_comm 72057594037927936 y]
    · have hkn' : k = n := by omega
      subst hkn'
      go_wp2_with fail
      go_ret
      exact ⟨rfl, HRk.out, HGk.out⟩

end Go.Proofs.Ythekickjjaleaac

/- The slots of the program's caches: an entry's cells in another order. No program is named here. -/
namespace Go.Proofs.Ythekickjjaleaac
open Go.RowKit
set_option linter.unusedVariables false

def slotC (e : EntM) : List Value := [.int .i64 e.level, .int .u64 e.tag, .int .u64 e.asid, .bool e.glob, .bool e.valid, .int .u64 e.pte]
def slotV (e : EntM) : Value := .agg #[.int .i64 e.level, .int .u64 e.tag, .int .u64 e.asid, .bool e.glob, .bool e.valid, .int .u64 e.pte]

def slotsC : List EntM → List Value
  | [] => []
  | e :: r => slotC e ++ slotsC r

theorem slotsC_len : ∀ es : List EntM, (slotsC es).length = es.length * 6
  | [] => rfl
  | e :: r => by simp [slotsC, slotC, slotsC_len r]; omega

theorem slotsC_at : ∀ (es : List EntM) (i j : Nat) (hi : i < es.length), j < 6 → (slotsC es)[i * 6 + j]? = (slotC es[i])[j]?
  | e :: r, 0, j, hi, hj => by
    simp only [slotsC, List.getElem_cons_zero, Nat.zero_mul, Nat.zero_add]
    rw [List.getElem?_append_left (by simp [slotC]; exact hj)]
  | e :: r, i + 1, j, hi, hj => by
    simp only [slotsC, List.getElem_cons_succ]
    rw [List.getElem?_append_right (by simp [slotC]; omega)]
    rw [show (i + 1) * 6 + j - (slotC e).length = i * 6 + j by simp [slotC]; omega]
    exact slotsC_at r i j (by simpa using hi) hj

theorem slotsC_set : ∀ (l : List EntM) (k : Nat) (e : EntM), k < l.length → slotsC (l.set k e) = ((((((slotsC l).set (k * 6) (.int .i64 e.level)).set (k * 6 + 1) (.int .u64 e.tag)).set (k * 6 + 2) (.int .u64 e.asid)).set (k * 6 + 3) (.bool e.glob)).set (k * 6 + 4) (.bool e.valid)).set (k * 6 + 5) (.int .u64 e.pte)
  | x :: r, 0, e, h => by simp [slotsC, slotC]
  | x :: r, k + 1, e, h => by
    have ih := slotsC_set r k e (by simpa using h)
    rw [List.set_cons_succ]
    simp only [slotsC, ih]
    rw [show (k + 1) * 6 = (slotC x).length + k * 6 by simp [slotC]; omega]
    simp only [Nat.add_assoc]
    rw [List.set_append_right _ _ (by simp [slotC]), List.set_append_right _ _ (by omega), List.set_append_right _ _ (by omega), List.set_append_right _ _ (by omega), List.set_append_right _ _ (by omega), List.set_append_right _ _ (by omega)]
    simp

/-- The first k entries, the rest empty. -/
def firstN (k n : Nat) (es : List EntM) : List EntM := es.take k ++ List.replicate (n - k) ent0

theorem firstN_len (k : Nat) (es : List EntM) (hk : k ≤ es.length) : (firstN k es.length es).length = es.length := by
  simp [firstN]; omega

theorem firstN_next (k : Nat) (es : List EntM) (x : EntM) (hx : es[k]? = some x) : firstN (k + 1) es.length es = (firstN k es.length es).set k x := by
  obtain ⟨hk, rfl⟩ := List.getElem?_eq_some_iff.1 hx
  unfold firstN
  apply List.ext_getElem?
  intro j
  rw [List.getElem?_set]
  by_cases hj : k = j
  · subst hj
    rw [if_pos rfl, if_pos (by simp; omega), List.getElem?_append_left (by simp; omega)]
    simp [hk]
  · rw [if_neg hj]
    by_cases hlt : j < k
    · rw [List.getElem?_append_left (by simp; omega), List.getElem?_append_left (by simp; omega)]
      simp [hlt, show j < k + 1 by omega]
    · rw [List.getElem?_append_right (by simp; omega), List.getElem?_append_right (by simp; omega)]
      simp only [List.length_take, List.getElem?_replicate]
      rw [show min (k + 1) es.length = k + 1 by omega, show min k es.length = k by omega]
      by_cases hh : j < es.length
      · rw [if_pos (by omega), if_pos (by omega)]
      · rw [if_neg (by omega), if_neg (by omega)]

theorem firstN_zero (k : Nat) (es : List EntM) (hx : es[k]? = some ent0) : firstN (k + 1) es.length es = firstN k es.length es := by
  rw [firstN_next k es ent0 hx]
  have hk : k < es.length := (List.getElem?_eq_some_iff.1 hx).1
  apply List.ext_getElem?
  intro j
  rw [List.getElem?_set]
  by_cases hj : k = j
  · subst hj
    rw [if_pos rfl, if_pos (by rw [firstN_len _ _ (by omega)]; exact hk)]
    unfold firstN
    rw [List.getElem?_append_right (by simp; omega)]
    simp only [List.length_take, List.getElem?_replicate]
    rw [if_pos (by omega)]
  · rw [if_neg hj]

theorem firstN_all (es : List EntM) : firstN es.length es.length es = es := by
  simp [firstN]

theorem firstN_start (n : Nat) (es : List EntM) : firstN 0 n es = List.replicate n ent0 := by simp [firstN]

theorem belS6 {B : Nat} {a w : World} {g : Nat} (h : Below B a w) (hg : B ≤ g) (x y z u v t : Value) : Below B a ((((((w.setCell ⟨g, 0, none⟩ x).setCell ⟨g, 1, none⟩ y).setCell ⟨g, 2, none⟩ z).setCell ⟨g, 3, none⟩ u).setCell ⟨g, 4, none⟩ v).setCell ⟨g, 5, none⟩ t) :=
  (((bel3 h hg x y z).setCell (p := ⟨g, 3, none⟩) hg u).setCell (p := ⟨g, 4, none⟩) hg v).setCell (p := ⟨g, 5, none⟩) hg t

theorem six_at {v : World} {p : Nat} {T : TypeId} {a b c d e f : Value} (h : v.heap[p]? = some (.cells #[a, b, c, d, e, f] T (0, 0))) :
    (v.cell? ⟨p, 0, none⟩ = some a ∧ v.cell? ⟨p, 1, none⟩ = some b ∧ v.cell? ⟨p, 2, none⟩ = some c ∧ v.cell? ⟨p, 3, none⟩ = some d ∧ v.cell? ⟨p, 4, none⟩ = some e ∧ v.cell? ⟨p, 5, none⟩ = some f) ∧
      (v.frozen? ⟨p, 0, none⟩ = false ∧ v.frozen? ⟨p, 1, none⟩ = false ∧ v.frozen? ⟨p, 2, none⟩ = false ∧ v.frozen? ⟨p, 3, none⟩ = false ∧ v.frozen? ⟨p, 4, none⟩ = false ∧ v.frozen? ⟨p, 5, none⟩ = false) := by
  simp [World.cell?, World.frozen?, h]

end Go.Proofs.Ythekickjjaleaac

/- A row of empty entries that is made; entries that are copied. -/
namespace Go.Proofs.Ythekickjjaleaac
open Go.RowKit
set_option linter.unusedVariables false

theorem made_ents (z : EntM) (n : Nat) : (madeCells (entC z).toArray (n * 6)).toList = entsC (List.replicate n z) := by
  apply List.ext_getElem?
  intro j
  by_cases hj : j < n * 6
  · have hq : j / 6 < (List.replicate n z).length := by simp; omega
    have := entsC_at (List.replicate n z) (j / 6) (j % 6) hq (by omega)
    rw [show j / 6 * 6 + j % 6 = j by omega] at this
    rw [this]
    have h6 : j % 6 < (entC z).length := by simp [entC]; omega
    simp only [madeCells, List.getElem_replicate]
    rw [List.getElem?_eq_getElem h6]
    simp [hj, entC]
    rw [List.getElem?_eq_getElem (by simpa [entC] using h6)]
    rfl
  · rw [List.getElem?_eq_none (by simp [madeCells]; omega), List.getElem?_eq_none (by rw [entsC_len]; simp; omega)]

theorem makeE (n : Nat) (hn : n ≤ 1048576) : ∃ cs : Array Value, cs.toList = entsC (List.replicate n ent0) ∧ ∀ u : World, (Instr.makeSlice 25 (.int .i64 (n : Int)) (.int .i64 (n : Int))).run Try.prog u = .ok (.slice (some ⟨u.heap.size, 0, none⟩) n n) (u.alloc (.cells cs 91)) := by
  obtain ⟨i0, hi, hz0, hz1, hz2⟩ := info_parts Try.infoEnt
  refine ⟨madeCells (Value.agg #[.bool false, .int .i64 0, .int .u64 0, .int .u64 0, .bool false, .int .u64 0]).cells (n * 6), ?_, fun u => ?_⟩
  · exact made_ents ent0 n
  · have := run_make (P := Try.prog) u 25 91 i0 _ Try.underlying25 hi hz0 .i64 .i64 n n (by omega) (Int.le_refl _) (by rw [hz2]; omega) (by omega)
    rw [hz1] at this
    simpa using this

end Go.Proofs.Ythekickjjaleaac
