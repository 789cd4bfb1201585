import Derived.Test.YthekickjjaleaacPack18
/- The program's scripts: DecodeScript. Written by mk5x.py. -/
namespace Go.Proofs.Ythekickjjaleaac
open Go.RowKit
set_option linter.unusedVariables false
attribute [local go_sem ↓] Go.wp_at_zero Go.wp_at_succ

theorem bel_gbs {w v v' : World} {r : Nat} (n : Below w.heap.size w v) (g : v.grownBy v' (some r)) (h : w.heap.size ≤ r) : Below w.heap.size w v' :=
  n.trans ⟨g.os, g.tape, g.output, g.size, fun k hk => g.block k (Nat.lt_of_lt_of_le hk n.size) (by simp; omega)⟩

theorem makeB (n : Nat) (hn : n ≤ 20000) : ∃ cs : Array Value, cs.toList = bytC (List.replicate n 0) ∧ ∀ u : World, (Instr.makeSlice 22 (.int .i64 (n : Int)) (.int .i64 (n : Int))).run Try.prog u = .ok (.slice (some ⟨u.heap.size, 0, none⟩) n n) (u.alloc (.cells cs 5)) := by
  obtain ⟨i0, hi, hz0, hz1, hz2⟩ := info_parts Try.infoB
  refine ⟨madeCells (Value.int .u8 0).cells (n * 1), ?_, fun u => ?_⟩
  · rw [Nat.mul_one]
    exact (made_one (.int .u8 0) n).trans (by simp [bytC])
  · have := run_make (P := Try.prog) u 22 5 i0 _ Try.underlying22 hi hz0 .i64 .i64 n n (by omega) (Int.le_refl _) (by rw [hz2]; omega) (by omega)
    rw [hz1] at this
    simpa using this

theorem own_keeps {e : TypeId} {size : Nat} {w w' : World} {base n x y z : Nat} {v : Value} {cs : List Value} (h : w.ownsRow base e size v n cs) (k : Keeps w w' x y z) (hx : x < base) (hy : y < base) (hz : z < base) : w'.ownsRow base e size v n cs := by
  obtain ⟨h1, h2⟩ := h
  refine ⟨h1, ?_⟩
  rcases h2 with h2 | ⟨g, cap, cur, e1, hb, hh, r⟩
  · exact .inl h2
  · exact .inr ⟨g, cap, cur, e1, hb, k.heap hh (by omega) (by omega) (by omega), r⟩

theorem bel_keeps {w v v' : World} {x y z : Nat} (n : Below w.heap.size w v) (k : Keeps v v' x y z) (hx : w.heap.size ≤ x) (hy : w.heap.size ≤ y) (hz : w.heap.size ≤ z) : Below w.heap.size w v' := Keeps.below n k n.size hx hy hz

theorem lay_len (b : List Int) : ∀ (m i a : Nat) (mem : List Int), (layM b m i a mem).length = mem.length
  | 0, i, a, mem => rfl
  | m + 1, i, a, mem => by
    rw [layM]
    split
    · rw [lay_len b m, List.length_set]
    · exact lay_len b m (i + 1) (a + 1) mem

theorem own_keeps2 {e : TypeId} {size : Nat} {w w' : World} {base n g c x y : Nat} {cs : List Value} (h : OwnC e size w base g n c cs) (k : Keeps w w' x y y) (hx : g ≠ x) (hy : g ≠ y) : OwnC e size w' base g n c cs := by
  obtain ⟨h1, h2⟩ := h
  refine ⟨h1, ?_⟩
  rcases h2 with h2 | ⟨g', cap, cur, e1, hb, hh, r⟩
  · exact .inl h2
  · have hg : g = g' := by simpa using congrArg (fun v => match v with | Value.slice (some q) _ _ => q.block | _ => 0) e1
    exact .inr ⟨g', cap, cur, e1, hb, k.heap hh (by omega) (by omega) (by omega), r⟩

theorem own_types {e e' : TypeId} {s s' : Nat} {w : World} {b b' g g' n n' c c' : Nat} {cs cs' : List Value} (h : OwnC e s w b g n c cs) (h' : OwnC e' s' w b' g' n' c' cs') (hne : e ≠ e') : g ≠ g' := by
  intro hg
  subst hg
  rcases h.2 with ⟨h2, _⟩ | ⟨x, _, cur, e1, _, hh, _⟩
  · simp at h2
  · rcases h'.2 with ⟨h2, _⟩ | ⟨x', _, cur', e1', _, hh', _⟩
    · simp at h2
    · simp at e1 e1'
      obtain ⟨rfl, _⟩ := e1
      obtain ⟨rfl, _⟩ := e1'
      rw [hh] at hh'
      cases hh'
      exact hne rfl

/-- What the program's DecodeScript answers: every row of its own, no two in one block. -/
def DecOwn (w : World) (h : HartM) (ps : List Int) : Ending → World → Prop := fun e w' => (∃ g1 c1 g2 c2 g3 c3 gm cm gr cr gp cp, e = .returned (.agg (scriptA ⟨some ⟨gm, 0, none⟩, cm, some ⟨gr, 0, none⟩, cr, some ⟨g1, 0, none⟩, c1, some ⟨g2, 0, none⟩, c2, some ⟨g3, 0, none⟩, c3⟩ (some ⟨gp, 0, none⟩) cp h ps)) ∧
  OwnC 91 6 w' w.heap.size g1 h.k.i.es.length c1 (entsC h.k.i.es) ∧ OwnC 91 6 w' w.heap.size g2 h.k.d.es.length c2 (entsC h.k.d.es) ∧ OwnC 91 6 w' w.heap.size g3 h.k.p.es.length c3 (entsC h.k.p.es) ∧
  OwnC 5 1 w' w.heap.size gm h.mem.length cm (bytC h.mem) ∧ OwnC 24 1 w' w.heap.size gr h.regs.length cr (numsC h.regs) ∧ OwnC 2 1 w' w.heap.size gp ps.length cp (picksC ps) ∧ g1 ≠ g2 ∧ g1 ≠ g3 ∧ g2 ≠ g3) ∧ Below w.heap.size w w'

set_option maxRecDepth 20000 in
set_option maxHeartbeats 1600000 in
theorem implDecode_any (a : Option Addr) (len cap : Nat) (zs : List Int) (w : World) (hB : Byt w a len zs) (hl : len ≤ 1048576) :
    Calls Try.prog 7 #[.slice a len cap] w (DecOwn w (decodeHM zs) (picksM zs)) := by
  have HBy : Hid _ := hB
  have HBd : Hid (∀ i : Nat, 0 ≤ atM zs i ∧ atM zs i ≤ 255) := hB.2.1
  have HNa : Hid (0 < len → ∀ x, a = some x → x.block ≠ (w.heap.size + 2)) := by
    intro h0 x hx
    rcases hB.2.2 with h1 | ⟨g, off, e, hlt, _⟩
    · omega
    · rw [e] at hx
      cases hx
      simp only
      omega
  obtain ⟨X, hX⟩ : ∃ X, decodeHM zs = X := ⟨_, rfl⟩
  obtain ⟨ps, hps⟩ : ∃ ps, picksM zs = ps := ⟨_, rfl⟩
  have HX : Hid _ := hX
  have HPs : Hid _ := hps
  rw [hX, hps]
  clear hX hps
  obtain ⟨Q, hQ⟩ : ∃ Q, bodyPost Try.prog Try.f7 (DecOwn w X ps) = Q := ⟨_, rfl⟩
  have HQ : Hid _ := hQ
  have HQp : Hid (∀ x (a : Act) d z w, Q (.panic x) (a.put d z) w → Q (.panic x) a w) := by
    show ∀ x (a : Act) d z w, Q (.panic x) (a.put d z) w → Q (.panic x) a w
    rw [← HQ.out]
    exact fun _ _ d _ _ h => by cases d <;> exact h
  go_enter Try.func7, Try.ntmps7
  rw [hQ]
  clear hQ
  go_upto_region 2 with fail
  have F := alloc2 w zscriptA #[.slice a len cap, .int .i64 0] 34 59
  generalize (w.alloc (Obj.cells zscriptA 34)).alloc (Obj.cells #[.slice a len cap, .int .i64 0] 59) = u2 at F ⊢
  obtain ⟨f1, f2, f4, f5⟩ := F
  have F4 : Hid _ := f4
  have a3 := alloc1 u2 zhartA 31
  have hH3 := hart_size (⟨none, 0, none, 0, none, 0, none, 0, none, 0⟩ : PtrM) (⟨[], [], 0, 0, false, false, 0, 0, 0, 0, 0, 0, ⟨tlb0, tlb0, tlb0⟩⟩ : HartM)
  have HS3 : Hid _ := box_put (P := Try.prog) (T := 31) (V := hartA (⟨none, 0, none, 0, none, 0, none, 0, none, 0⟩ : PtrM) (⟨[], [], 0, 0, false, false, 0, 0, 0, 0, 0, 0, ⟨tlb0, tlb0, tlb0⟩⟩ : HartM)) a3.1 (by rw [hH3]; exact hartI) (by rw [hH3, zhart_size]) (hart_one _ _)
  have HBx : Hid _ := box_putH (V := hartA (⟨none, 0, none, 0, none, 0, none, 0, none, 0⟩ : PtrM) (⟨[], [], 0, 0, false, false, 0, 0, 0, 0, 0, 0, ⟨tlb0, tlb0, tlb0⟩⟩ : HartM)) a3.1 (by rw [hH3, zhart_size])
  have n3 := bel_sets (Nat.le_refl u2.heap.size) (hartA (⟨none, 0, none, 0, none, 0, none, 0, none, 0⟩ : PtrM) (⟨[], [], 0, 0, false, false, 0, 0, 0, 0, 0, 0, ⟨tlb0, tlb0, tlb0⟩⟩ : HartM)).toList 0 _ a3.2.2
  have S3 : Hid (((u2.alloc (Obj.cells zhartA 31)).setCells u2.heap.size 0 (hartA (⟨none, 0, none, 0, none, 0, none, 0, none, 0⟩ : PtrM) (⟨[], [], 0, 0, false, false, 0, 0, 0, 0, 0, 0, ⟨tlb0, tlb0, tlb0⟩⟩ : HartM)).toList).heap.size = u2.heap.size + 1) := by show _ = _; rw [size_sets, a3.2.1]
  have HRs : Hid _ := heap_keep f1 n3 (by omega)
  have nB := Below.step f5 n3 (Nat.le_refl _)
  have HRd : Hid (RdAt ((u2.alloc (Obj.cells zhartA 31)).setCells u2.heap.size 0 (hartA (⟨none, 0, none, 0, none, 0, none, 0, none, 0⟩ : PtrM) (⟨[], [], 0, 0, false, false, 0, 0, 0, 0, 0, 0, ⟨tlb0, tlb0, tlb0⟩⟩ : HartM)).toList) (w.heap.size + 1) a len cap zs 0) := by
    refine ⟨?_, Byt.keep hB nB, ?_, hl⟩
    · rw [show min 0 len = 0 by omega]
      exact heap_keep f2 n3 (by omega)
    · intro h0 x hx
      rcases hB.2.2 with h1 | ⟨g, off, e, hlt, _⟩
      · omega
      · rw [e] at hx
        cases hx
        simp only
        omega
  clear a3 n3 f1 f2 f4 f5 hB hH3
  go_upto_region 3 with ((with_reducible refine wpl_store ?_ ?_ HS3.out ?_); (exact rfl); (exact rfl))
  clear HS3
  generalize (u2.alloc (Obj.cells zhartA 31)).setCells u2.heap.size 0 (hartA (⟨none, 0, none, 0, none, 0, none, 0, none, 0⟩ : PtrM) (⟨[], [], 0, 0, false, false, 0, 0, 0, 0, 0, 0, ⟨tlb0, tlb0, tlb0⟩⟩ : HartM)).toList = v0 at HRs HBx nB S3 HRd ⊢
  have s3 := S3.out
  have hu2 := F4.out
  clear S3 F4
  have hl0 : (w.heap.size + 3) ≤ v0.heap.size := by omega
  simp only [hu2] at HBx ⊢
  clear s3 hu2
  obtain ⟨y1, e1⟩ : ∃ y, atM zs 0 = y := ⟨_, rfl⟩
  have E1 : Hid _ := e1
  clear e1
  obtain ⟨y2, e2⟩ : ∃ y, atM zs 1 = y := ⟨_, rfl⟩
  have E2 : Hid _ := e2
  clear e2
  obtain ⟨y3, e3⟩ : ∃ y, atM zs 2 = y := ⟨_, rfl⟩
  have E3 : Hid _ := e3
  clear e3
  go_wp2_with fail
  refine (emptyTlb_any (w.heap.size + 1) len cap 0 a zs v0 HRd.out).mono ?_
  rintro e v1 ⟨⟨x1, rfl, hx1⟩, hR, hG⟩
  rw [E1.out] at hx1
  obtain ⟨g1, c1, rfl, o1⟩ := hx1
  have R1 : Hid _ := own_low o1 hl0
  have hgb1 := (own_ptr o1 ⟨g1, 0, none⟩ rfl).1
  have hgt1 := (own_ptr o1 ⟨g1, 0, none⟩ rfl).2
  simp only at hgb1 hgt1
  clear o1
  have HRdx : Hid _ := hR
  have HBxx : Hid _ := heap_gb HBx.out hG (show (w.heap.size + 2) ≠ (w.heap.size + 1) by omega)
  have HRsx : Hid _ := heap_gb HRs.out hG (show w.heap.size ≠ (w.heap.size + 1) by omega)
  have nBx := bel_gbs nB hG (show w.heap.size ≤ (w.heap.size + 1) by omega)
  have hlx : (w.heap.size + 3) ≤ v1.heap.size := Nat.le_trans hl0 hG.size
  clear HRd HBx HRs nB hl0
  clear hG hR
  have HRd := HRdx
  have HBx := HBxx
  have HRs := HRsx
  have nB := nBx
  have hl0 := hlx
  clear HRdx HBxx HRsx nBx hlx
  have hHs := hart_size (⟨none, 0, none, 0, none, 0, none, 0, none, 0⟩ : PtrM) (⟨[], [], 0, 0, false, false, 0, 0, 0, 0, 0, 0, ⟨tlb0, tlb0, tlb0⟩⟩ : HartM)
  have HS3 : Hid _ := box_store (P := Try.prog) (T := 27) HBx.out (o := 12) (V := #[.int .i64 (emptyM y1).sets, .int .i64 (emptyM y1).ways, .slice (some ⟨g1, 0, none⟩) (emptyM y1).es.length c1]) (by kernel_rfl) (by rw [hHs]; show 12 + 3 ≤ 21; omega) (by simp [Value.oneCell'])
  have HB3 : Hid _ := setCells_heap (w.heap.size + 2) (#[.int .i64 (emptyM y1).sets, .int .i64 (emptyM y1).ways, .slice (some ⟨g1, 0, none⟩) (emptyM y1).es.length c1] : Array Value).toList 12 v1 _ _ _ HBx.out (by rw [hHs]; show 12 + 3 ≤ 21; omega)
  have gS := setCells_gb (w.heap.size + 2) (#[.int .i64 (emptyM y1).sets, .int .i64 (emptyM y1).ways, .slice (some ⟨g1, 0, none⟩) (emptyM y1).es.length c1] : Array Value).toList 12 v1 v1 (gb_refl v1 _)
  have HPe : Hid (putA (hartA (⟨none, 0, none, 0, none, 0, none, 0, none, 0⟩ : PtrM) (⟨[], [], 0, 0, false, false, 0, 0, 0, 0, 0, 0, ⟨tlb0, tlb0, tlb0⟩⟩ : HartM)) 12 (#[.int .i64 (emptyM y1).sets, .int .i64 (emptyM y1).ways, .slice (some ⟨g1, 0, none⟩) (emptyM y1).es.length c1] : Array Value).toList = hartA (⟨none, 0, none, 0, (some ⟨g1, 0, none⟩), c1, none, 0, none, 0⟩ : PtrM) (⟨[], [], 0, 0, false, false, 0, 0, 0, 0, 0, 0, ⟨(emptyM y1), tlb0, tlb0⟩⟩ : HartM)) := by
    show _ = _
    simp [putA, hartA, tlb0]
  rw [HPe.out] at HB3
  go_upto_region 4 with ((with_reducible refine wpl_store ?_ ?_ HS3.out ?_); (exact rfl); (exact rfl))
  clear HS3 HPe hHs
  have HRdx : Hid _ := HRd.out.gb gS (show (w.heap.size + 1) ≠ (w.heap.size + 2) by omega) HNa.out
  have HRsx : Hid _ := heap_gb HRs.out gS (show w.heap.size ≠ (w.heap.size + 2) by omega)
  have nBx := bel_gbs nB gS (show w.heap.size ≤ (w.heap.size + 2) by omega)
  have hlx : (w.heap.size + 3) ≤ (v1.setCells (w.heap.size + 2) 12 (#[.int .i64 (emptyM y1).sets, .int .i64 (emptyM y1).ways, .slice (some ⟨g1, 0, none⟩) (emptyM y1).es.length c1] : Array Value).toList).heap.size := Nat.le_trans hl0 gS.size
  clear HRd HBx HRs nB hl0
  have R1x : Hid _ := own_gb R1.out gS (show (w.heap.size + 2) < (w.heap.size + 3) by omega)
  clear R1
  have R1 := R1x
  clear R1x
  have HRd := HRdx
  have HBx := HB3
  have HRs := HRsx
  have nB := nBx
  have hl0 := hlx
  clear HRdx HB3 HRsx nBx hlx gS
  generalize v1.setCells (w.heap.size + 2) 12 [.int .i64 (emptyM y1).sets, .int .i64 (emptyM y1).ways, .slice (some ⟨g1, 0, none⟩) (emptyM y1).es.length c1] = v2 at HRd HBx HRs nB hl0 R1 ⊢
  go_wp2_with fail
  refine (emptyTlb_any (w.heap.size + 1) len cap 1 a zs v2 HRd.out).mono ?_
  rintro e v3 ⟨⟨x2, rfl, hx2⟩, hR, hG⟩
  rw [E2.out] at hx2
  obtain ⟨g2, c2, rfl, o2⟩ := hx2
  have R2 : Hid _ := own_low o2 hl0
  have hgb2 := (own_ptr o2 ⟨g2, 0, none⟩ rfl).1
  have hgt2 := (own_ptr o2 ⟨g2, 0, none⟩ rfl).2
  simp only at hgb2 hgt2
  have h12 : g1 < g2 := by have := (OwnC.facts R1.out).2.2.1; omega
  clear o2
  have HRdx : Hid _ := hR
  have HBxx : Hid _ := heap_gb HBx.out hG (show (w.heap.size + 2) ≠ (w.heap.size + 1) by omega)
  have HRsx : Hid _ := heap_gb HRs.out hG (show w.heap.size ≠ (w.heap.size + 1) by omega)
  have nBx := bel_gbs nB hG (show w.heap.size ≤ (w.heap.size + 1) by omega)
  have hlx : (w.heap.size + 3) ≤ v3.heap.size := Nat.le_trans hl0 hG.size
  clear HRd HBx HRs nB hl0
  have R1x : Hid _ := own_gb R1.out hG (show (w.heap.size + 1) < (w.heap.size + 3) by omega)
  clear R1
  have R1 := R1x
  clear R1x
  clear hG hR
  have HRd := HRdx
  have HBx := HBxx
  have HRs := HRsx
  have nB := nBx
  have hl0 := hlx
  clear HRdx HBxx HRsx nBx hlx
  have hHs := hart_size (⟨none, 0, none, 0, (some ⟨g1, 0, none⟩), c1, none, 0, none, 0⟩ : PtrM) (⟨[], [], 0, 0, false, false, 0, 0, 0, 0, 0, 0, ⟨(emptyM y1), tlb0, tlb0⟩⟩ : HartM)
  have HS3 : Hid _ := box_store (P := Try.prog) (T := 27) HBx.out (o := 15) (V := #[.int .i64 (emptyM y2).sets, .int .i64 (emptyM y2).ways, .slice (some ⟨g2, 0, none⟩) (emptyM y2).es.length c2]) (by kernel_rfl) (by rw [hHs]; show 15 + 3 ≤ 21; omega) (by simp [Value.oneCell'])
  have HB3 : Hid _ := setCells_heap (w.heap.size + 2) (#[.int .i64 (emptyM y2).sets, .int .i64 (emptyM y2).ways, .slice (some ⟨g2, 0, none⟩) (emptyM y2).es.length c2] : Array Value).toList 15 v3 _ _ _ HBx.out (by rw [hHs]; show 15 + 3 ≤ 21; omega)
  have gS := setCells_gb (w.heap.size + 2) (#[.int .i64 (emptyM y2).sets, .int .i64 (emptyM y2).ways, .slice (some ⟨g2, 0, none⟩) (emptyM y2).es.length c2] : Array Value).toList 15 v3 v3 (gb_refl v3 _)
  have HPe : Hid (putA (hartA (⟨none, 0, none, 0, (some ⟨g1, 0, none⟩), c1, none, 0, none, 0⟩ : PtrM) (⟨[], [], 0, 0, false, false, 0, 0, 0, 0, 0, 0, ⟨(emptyM y1), tlb0, tlb0⟩⟩ : HartM)) 15 (#[.int .i64 (emptyM y2).sets, .int .i64 (emptyM y2).ways, .slice (some ⟨g2, 0, none⟩) (emptyM y2).es.length c2] : Array Value).toList = hartA (⟨none, 0, none, 0, (some ⟨g1, 0, none⟩), c1, (some ⟨g2, 0, none⟩), c2, none, 0⟩ : PtrM) (⟨[], [], 0, 0, false, false, 0, 0, 0, 0, 0, 0, ⟨(emptyM y1), (emptyM y2), tlb0⟩⟩ : HartM)) := by
    show _ = _
    simp [putA, hartA, tlb0]
  rw [HPe.out] at HB3
  go_upto_region 5 with ((with_reducible refine wpl_store ?_ ?_ HS3.out ?_); (exact rfl); (exact rfl))
  clear HS3 HPe hHs
  have HRdx : Hid _ := HRd.out.gb gS (show (w.heap.size + 1) ≠ (w.heap.size + 2) by omega) HNa.out
  have HRsx : Hid _ := heap_gb HRs.out gS (show w.heap.size ≠ (w.heap.size + 2) by omega)
  have nBx := bel_gbs nB gS (show w.heap.size ≤ (w.heap.size + 2) by omega)
  have hlx : (w.heap.size + 3) ≤ (v3.setCells (w.heap.size + 2) 15 (#[.int .i64 (emptyM y2).sets, .int .i64 (emptyM y2).ways, .slice (some ⟨g2, 0, none⟩) (emptyM y2).es.length c2] : Array Value).toList).heap.size := Nat.le_trans hl0 gS.size
  clear HRd HBx HRs nB hl0
  have R1x : Hid _ := own_gb R1.out gS (show (w.heap.size + 2) < (w.heap.size + 3) by omega)
  clear R1
  have R1 := R1x
  clear R1x
  have R2x : Hid _ := own_gb R2.out gS (show (w.heap.size + 2) < (w.heap.size + 3) by omega)
  clear R2
  have R2 := R2x
  clear R2x
  have HRd := HRdx
  have HBx := HB3
  have HRs := HRsx
  have nB := nBx
  have hl0 := hlx
  clear HRdx HB3 HRsx nBx hlx gS
  generalize v3.setCells (w.heap.size + 2) 15 [.int .i64 (emptyM y2).sets, .int .i64 (emptyM y2).ways, .slice (some ⟨g2, 0, none⟩) (emptyM y2).es.length c2] = v4 at HRd HBx HRs nB hl0 R1 R2 ⊢
  go_wp2_with fail
  refine (emptyTlb_any (w.heap.size + 1) len cap 2 a zs v4 HRd.out).mono ?_
  rintro e v5 ⟨⟨x3, rfl, hx3⟩, hR, hG⟩
  rw [E3.out] at hx3
  obtain ⟨g3, c3, rfl, o3⟩ := hx3
  have R3 : Hid _ := own_low o3 hl0
  have hgb3 := (own_ptr o3 ⟨g3, 0, none⟩ rfl).1
  have hgt3 := (own_ptr o3 ⟨g3, 0, none⟩ rfl).2
  simp only at hgb3 hgt3
  have h13 : g1 < g3 := by have := (OwnC.facts R1.out).2.2.1; omega
  have h23 : g2 < g3 := by have := (OwnC.facts R2.out).2.2.1; omega
  clear o3
  have HRdx : Hid _ := hR
  have HBxx : Hid _ := heap_gb HBx.out hG (show (w.heap.size + 2) ≠ (w.heap.size + 1) by omega)
  have HRsx : Hid _ := heap_gb HRs.out hG (show w.heap.size ≠ (w.heap.size + 1) by omega)
  have nBx := bel_gbs nB hG (show w.heap.size ≤ (w.heap.size + 1) by omega)
  have hlx : (w.heap.size + 3) ≤ v5.heap.size := Nat.le_trans hl0 hG.size
  clear HRd HBx HRs nB hl0
  have R1x : Hid _ := own_gb R1.out hG (show (w.heap.size + 1) < (w.heap.size + 3) by omega)
  clear R1
  have R1 := R1x
  clear R1x
  have R2x : Hid _ := own_gb R2.out hG (show (w.heap.size + 1) < (w.heap.size + 3) by omega)
  clear R2
  have R2 := R2x
  clear R2x
  clear hG hR
  have HRd := HRdx
  have HBx := HBxx
  have HRs := HRsx
  have nB := nBx
  have hl0 := hlx
  clear HRdx HBxx HRsx nBx hlx
  have hHs := hart_size (⟨none, 0, none, 0, (some ⟨g1, 0, none⟩), c1, (some ⟨g2, 0, none⟩), c2, none, 0⟩ : PtrM) (⟨[], [], 0, 0, false, false, 0, 0, 0, 0, 0, 0, ⟨(emptyM y1), (emptyM y2), tlb0⟩⟩ : HartM)
  have HS3 : Hid _ := box_store (P := Try.prog) (T := 27) HBx.out (o := 18) (V := #[.int .i64 (emptyM y3).sets, .int .i64 (emptyM y3).ways, .slice (some ⟨g3, 0, none⟩) (emptyM y3).es.length c3]) (by kernel_rfl) (by rw [hHs]; show 18 + 3 ≤ 21; omega) (by simp [Value.oneCell'])
  have HB3 : Hid _ := setCells_heap (w.heap.size + 2) (#[.int .i64 (emptyM y3).sets, .int .i64 (emptyM y3).ways, .slice (some ⟨g3, 0, none⟩) (emptyM y3).es.length c3] : Array Value).toList 18 v5 _ _ _ HBx.out (by rw [hHs]; show 18 + 3 ≤ 21; omega)
  have gS := setCells_gb (w.heap.size + 2) (#[.int .i64 (emptyM y3).sets, .int .i64 (emptyM y3).ways, .slice (some ⟨g3, 0, none⟩) (emptyM y3).es.length c3] : Array Value).toList 18 v5 v5 (gb_refl v5 _)
  have HPe : Hid (putA (hartA (⟨none, 0, none, 0, (some ⟨g1, 0, none⟩), c1, (some ⟨g2, 0, none⟩), c2, none, 0⟩ : PtrM) (⟨[], [], 0, 0, false, false, 0, 0, 0, 0, 0, 0, ⟨(emptyM y1), (emptyM y2), tlb0⟩⟩ : HartM)) 18 (#[.int .i64 (emptyM y3).sets, .int .i64 (emptyM y3).ways, .slice (some ⟨g3, 0, none⟩) (emptyM y3).es.length c3] : Array Value).toList = hartA (⟨none, 0, none, 0, (some ⟨g1, 0, none⟩), c1, (some ⟨g2, 0, none⟩), c2, (some ⟨g3, 0, none⟩), c3⟩ : PtrM) (⟨[], [], 0, 0, false, false, 0, 0, 0, 0, 0, 0, ⟨(emptyM y1), (emptyM y2), (emptyM y3)⟩⟩ : HartM)) := by
    show _ = _
    simp [putA, hartA, tlb0]
  rw [HPe.out] at HB3
  go_upto_region 6 with ((with_reducible refine wpl_store ?_ ?_ HS3.out ?_); (exact rfl); (exact rfl))
  clear HS3 HPe hHs
  have HRdx : Hid _ := HRd.out.gb gS (show (w.heap.size + 1) ≠ (w.heap.size + 2) by omega) HNa.out
  have HRsx : Hid _ := heap_gb HRs.out gS (show w.heap.size ≠ (w.heap.size + 2) by omega)
  have nBx := bel_gbs nB gS (show w.heap.size ≤ (w.heap.size + 2) by omega)
  have hlx : (w.heap.size + 3) ≤ (v5.setCells (w.heap.size + 2) 18 (#[.int .i64 (emptyM y3).sets, .int .i64 (emptyM y3).ways, .slice (some ⟨g3, 0, none⟩) (emptyM y3).es.length c3] : Array Value).toList).heap.size := Nat.le_trans hl0 gS.size
  clear HRd HBx HRs nB hl0
  have R1x : Hid _ := own_gb R1.out gS (show (w.heap.size + 2) < (w.heap.size + 3) by omega)
  clear R1
  have R1 := R1x
  clear R1x
  have R2x : Hid _ := own_gb R2.out gS (show (w.heap.size + 2) < (w.heap.size + 3) by omega)
  clear R2
  have R2 := R2x
  clear R2x
  have R3x : Hid _ := own_gb R3.out gS (show (w.heap.size + 2) < (w.heap.size + 3) by omega)
  clear R3
  have R3 := R3x
  clear R3x
  have HRd := HRdx
  have HBx := HB3
  have HRs := HRsx
  have nB := nBx
  have hl0 := hlx
  clear HRdx HB3 HRsx nBx hlx gS
  generalize v5.setCells (w.heap.size + 2) 18 [.int .i64 (emptyM y3).sets, .int .i64 (emptyM y3).ways, .slice (some ⟨g3, 0, none⟩) (emptyM y3).es.length c3] = v6 at HRd HBx HRs nB hl0 R1 R2 R3 ⊢
  obtain ⟨y4, e4⟩ : ∃ y, atM zs 3 = y := ⟨_, rfl⟩
  have b4 := HBd.out 3
  rw [e4] at b4
  have E4 : Hid _ := e4
  clear e4
  obtain ⟨b41, b42⟩ := b4
  obtain ⟨size, hsz, hsz1, hsz2⟩ : ∃ size : Nat, 64 * (1 + y4 % 64) = size ∧ 64 ≤ size ∧ size ≤ 4096 := ⟨(64 * (1 + y4 % 64)).toNat, by omega, by omega, by omega⟩
  have HSz : Hid (size = 64 * (1 + (atM zs 3 % 64).toNat)) := by show _ = _; rw [E4.out]; omega
  obtain ⟨cs, hcs, hmk⟩ := makeB size (by omega)
  have HCs : Hid _ := hcs
  clear hcs
  go_wp2_with fail
  refine (next_any (w.heap.size + 1) len cap 3 a zs v6 HRd.out).mono ?_
  rintro e v7 ⟨rfl, hR, hG⟩
  rw [E4.out]
  have HRdx : Hid _ := hR
  have HBxx : Hid _ := heap_gb HBx.out hG (show (w.heap.size + 2) ≠ (w.heap.size + 1) by omega)
  have HRsx : Hid _ := heap_gb HRs.out hG (show w.heap.size ≠ (w.heap.size + 1) by omega)
  have nBx := bel_gbs nB hG (show w.heap.size ≤ (w.heap.size + 1) by omega)
  have hlx : (w.heap.size + 3) ≤ v7.heap.size := Nat.le_trans hl0 hG.size
  clear HRd HBx HRs nB hl0
  have R1x : Hid _ := own_gb R1.out hG (show (w.heap.size + 1) < (w.heap.size + 3) by omega)
  clear R1
  have R1 := R1x
  clear R1x
  have R2x : Hid _ := own_gb R2.out hG (show (w.heap.size + 1) < (w.heap.size + 3) by omega)
  clear R2
  have R2 := R2x
  clear R2x
  have R3x : Hid _ := own_gb R3.out hG (show (w.heap.size + 1) < (w.heap.size + 3) by omega)
  clear R3
  have R3 := R3x
  clear R3x
  clear hG hR
  have HRd := HRdx
  have HBx := HBxx
  have HRs := HRsx
  have nB := nBx
  have hl0 := hlx
  clear HRdx HBxx HRsx nBx hlx
  have kk := box_cell HBx.out 0 (show (hartA (⟨none, 0, none, 0, (some ⟨g1, 0, none⟩), c1, (some ⟨g2, 0, none⟩), c2, (some ⟨g3, 0, none⟩), c3⟩ : PtrM) (⟨[], [], 0, 0, false, false, 0, 0, 0, 0, 0, 0, ⟨(emptyM y1), (emptyM y2), (emptyM y3)⟩⟩ : HartM))[0]? = some (.slice none 0 0) from rfl)
  have ff := box_free HBx.out 0
  have hltv : (w.heap.size + 2) < v7.heap.size := by omega
  have gS := gb_set (gb_refl v7 (some (w.heap.size + 2))) 0 (.slice (some ⟨v7.heap.size, 0, none⟩) size size)
  have hvs : (v7.setCell ⟨(w.heap.size + 2), 0, none⟩ (.slice (some ⟨v7.heap.size, 0, none⟩) size size)).heap.size = v7.heap.size := by simp
  have hB3 := box_set HBx.out 0 (.slice (some ⟨v7.heap.size, 0, none⟩) size size)
  have nA := (Below.refl (v7.setCell ⟨(w.heap.size + 2), 0, none⟩ (.slice (some ⟨v7.heap.size, 0, none⟩) size size)).heap.size (v7.setCell ⟨(w.heap.size + 2), 0, none⟩ (.slice (some ⟨v7.heap.size, 0, none⟩) size size))).alloc (Nat.le_refl _) (Obj.cells cs 5)
  have HB3 : Hid (((v7.setCell ⟨(w.heap.size + 2), 0, none⟩ (.slice (some ⟨v7.heap.size, 0, none⟩) size size)).alloc (Obj.cells cs 5)).heap[(w.heap.size + 2)]? = some (.cells (hartA (⟨(some ⟨v7.heap.size, 0, none⟩), size, none, 0, (some ⟨g1, 0, none⟩), c1, (some ⟨g2, 0, none⟩), c2, (some ⟨g3, 0, none⟩), c3⟩ : PtrM) (⟨(List.replicate size 0), [], 0, 0, false, false, 0, 0, 0, 0, 0, 0, ⟨(emptyM y1), (emptyM y2), (emptyM y3)⟩⟩ : HartM)) 31 (0, 0))) := by
    have h1 := heap_keep hB3 nA (by omega)
    have e : hartA (⟨(some ⟨v7.heap.size, 0, none⟩), size, none, 0, (some ⟨g1, 0, none⟩), c1, (some ⟨g2, 0, none⟩), c2, (some ⟨g3, 0, none⟩), c3⟩ : PtrM) (⟨(List.replicate size 0), [], 0, 0, false, false, 0, 0, 0, 0, 0, 0, ⟨(emptyM y1), (emptyM y2), (emptyM y3)⟩⟩ : HartM) = (hartA (⟨none, 0, none, 0, (some ⟨g1, 0, none⟩), c1, (some ⟨g2, 0, none⟩), c2, (some ⟨g3, 0, none⟩), c3⟩ : PtrM) (⟨[], [], 0, 0, false, false, 0, 0, 0, 0, 0, 0, ⟨(emptyM y1), (emptyM y2), (emptyM y3)⟩⟩ : HartM)).setIfInBounds 0 (.slice (some ⟨v7.heap.size, 0, none⟩) (List.replicate size (0 : Int)).length size) := rfl
    rw [e, List.length_replicate]
    exact h1
  have RM : Hid (OwnC 5 1 ((v7.setCell ⟨(w.heap.size + 2), 0, none⟩ (.slice (some ⟨v7.heap.size, 0, none⟩) size size)).alloc (Obj.cells cs 5)) (w.heap.size + 3) v7.heap.size size size (bytC (List.replicate size 0))) := by
    have := OwnC.new 5 1 (v7.setCell ⟨(w.heap.size + 2), 0, none⟩ (.slice (some ⟨v7.heap.size, 0, none⟩) size size)) cs.toList size (by rw [HCs.out]; simp [bytC]) (by unfold maxLen; omega)
    rw [Array.toArray_toList, HCs.out, hvs] at this
    exact own_low this (by omega)
  have HRdx : Hid _ := (HRd.out.gb gS (show (w.heap.size + 1) ≠ (w.heap.size + 2) by omega) HNa.out).keep nA
  have HRsx : Hid _ := heap_keep (heap_gb HRs.out gS (show w.heap.size ≠ (w.heap.size + 2) by omega)) nA (by omega)
  have nBx := Below.step (bel_gbs nB gS (show w.heap.size ≤ (w.heap.size + 2) by omega)) nA (Nat.le_refl _)
  have hlx : (w.heap.size + 3) ≤ ((v7.setCell ⟨(w.heap.size + 2), 0, none⟩ (.slice (some ⟨v7.heap.size, 0, none⟩) size size)).alloc (Obj.cells cs 5)).heap.size := Nat.le_trans (by omega) nA.size
  have R1x : Hid _ := own_below (own_gb R1.out gS (show (w.heap.size + 2) < (w.heap.size + 3) by omega)) nA
  have R2x : Hid _ := own_below (own_gb R2.out gS (show (w.heap.size + 2) < (w.heap.size + 3) by omega)) nA
  have R3x : Hid _ := own_below (own_gb R3.out gS (show (w.heap.size + 2) < (w.heap.size + 3) by omega)) nA
  have HG3 : Hid (g1 < v7.heap.size ∧ g2 < v7.heap.size ∧ g3 < v7.heap.size) := ⟨(OwnC.facts R1.out).2.2.1, (OwnC.facts R2.out).2.2.1, (OwnC.facts R3.out).2.2.1⟩
  have HNx : Hid _ := nBx
  have HLx : Hid _ := hlx
  clear hB3 nA hvs nB nBx hlx gS R1 R2 R3 HRd HBx HRs
  go_upto_region 7 with fail
  clear kk ff hltv hsz hmk
  generalize ((v7.setCell ⟨(w.heap.size + 2), 0, none⟩ (.slice (some ⟨v7.heap.size, 0, none⟩) size size)).alloc (Obj.cells cs 5)) = v8 at HB3 RM HRdx HRsx HNx HLx R1x R2x R3x ⊢
  generalize v7.heap.size = gm at HB3 RM HG3 hl0 ⊢
  have HRd := HRdx
  have HBx := HB3
  have HRs := HRsx
  have nB := HNx.out
  have hl1 := HLx.out
  have R1 := R1x
  have R2 := R2x
  have R3 := R3x
  clear HRdx HB3 HRsx HNx HLx R1x R2x R3x hl0
  have hl0 := hl1
  clear hl1
  go_wp2_with fail
  refine (setMode_any (w.heap.size + 1) len cap 4 (w.heap.size + 2) a zs (⟨(some ⟨gm, 0, none⟩), size, none, 0, (some ⟨g1, 0, none⟩), c1, (some ⟨g2, 0, none⟩), c2, (some ⟨g3, 0, none⟩), c3⟩ : PtrM) (⟨(List.replicate size 0), [], 0, 0, false, false, 0, 0, 0, 0, 0, 0, ⟨(emptyM y1), (emptyM y2), (emptyM y3)⟩⟩ : HartM) v8 HRd.out HBx.out (by omega) HNa.out).mono ?_
  rintro e v9 ⟨rfl, hBx, hR, hKp⟩
  obtain ⟨y5, e5⟩ : ∃ y, atM zs 4 = y := ⟨_, rfl⟩
  have E5 : Hid _ := e5
  rw [e5] at hBx
  clear e5
  have HBx2 : Hid (v9.heap[(w.heap.size + 2)]? = some (.cells (hartA (⟨(some ⟨gm, 0, none⟩), size, none, 0, (some ⟨g1, 0, none⟩), c1, (some ⟨g2, 0, none⟩), c2, (some ⟨g3, 0, none⟩), c3⟩ : PtrM) (⟨(List.replicate size 0), [], 0, (modeM y5), (y5 / 4 % 2 == 1), (y5 / 8 % 2 == 1), 0, 0, 0, (modeM y5), 0, 0, ⟨(emptyM y1), (emptyM y2), (emptyM y3)⟩⟩ : HartM)) 31 (0, 0))) := hBx
  have HRsx : Hid _ := hKp.heap HRs.out (by omega) (by omega) (by omega)
  have nBx := bel_keeps nB hKp (by omega) (by omega) (by omega)
  have hlx : (w.heap.size + 3) ≤ v9.heap.size := Nat.le_trans hl0 hKp.2.2.2.1
  have HRdx : Hid _ := hR
  clear HRd HBx HRs nB hl0 hR hBx
  have R1x : Hid _ := own_keeps R1.out hKp (by omega) (by omega) (by omega)
  clear R1
  have R1 := R1x
  clear R1x
  have R2x : Hid _ := own_keeps R2.out hKp (by omega) (by omega) (by omega)
  clear R2
  have R2 := R2x
  clear R2x
  have R3x : Hid _ := own_keeps R3.out hKp (by omega) (by omega) (by omega)
  clear R3
  have R3 := R3x
  clear R3x
  have RMx : Hid _ := own_keeps RM.out hKp (by omega) (by omega) (by omega)
  clear RM
  have RM := RMx
  clear RMx
  clear hKp
  have HRd := HRdx
  have HBx := HBx2
  have HRs := HRsx
  have nB := nBx
  have hl0 := hlx
  clear HRdx HBx2 HRsx nBx hlx
  obtain ⟨N, hN⟩ : ∃ N : Nat, numM zs 5 2 = N ∧ N ≤ 65535 := by
    have b5 := HBd.out 5
    have b6 : 0 ≤ atM zs (5 + 1) ∧ atM zs (5 + 1) ≤ 255 := HBd.out 6
    refine ⟨(numM zs 5 2).toNat, ?_, ?_⟩ <;> (rw [numM_two]; omega)
  obtain ⟨hN, hN2⟩ := hN
  have HN : Hid _ := hN
  clear hN
  go_wp2_with fail
  refine (number_any (w.heap.size + 1) len cap 5 2 a zs v9 HRd.out (by omega)).mono ?_
  rintro e v10 ⟨rfl, hR, hG⟩
  rw [HN.out]
  have HRdx : Hid _ := hR
  have HBxx : Hid _ := heap_gb HBx.out hG (show (w.heap.size + 2) ≠ (w.heap.size + 1) by omega)
  have HRsx : Hid _ := heap_gb HRs.out hG (show w.heap.size ≠ (w.heap.size + 1) by omega)
  have nBx := bel_gbs nB hG (show w.heap.size ≤ (w.heap.size + 1) by omega)
  have hlx : (w.heap.size + 3) ≤ v10.heap.size := Nat.le_trans hl0 hG.size
  clear HRd HBx HRs nB hl0
  have R1x : Hid _ := own_gb R1.out hG (show (w.heap.size + 1) < (w.heap.size + 3) by omega)
  clear R1
  have R1 := R1x
  clear R1x
  have R2x : Hid _ := own_gb R2.out hG (show (w.heap.size + 1) < (w.heap.size + 3) by omega)
  clear R2
  have R2 := R2x
  clear R2x
  have R3x : Hid _ := own_gb R3.out hG (show (w.heap.size + 1) < (w.heap.size + 3) by omega)
  clear R3
  have R3 := R3x
  clear R3x
  have RMx : Hid _ := own_gb RM.out hG (show (w.heap.size + 1) < (w.heap.size + 3) by omega)
  clear RM
  have RM := RMx
  clear RMx
  clear hG hR
  have HRd := HRdx
  have HBx := HBxx
  have HRs := HRsx
  have nB := nBx
  have hl0 := hlx
  clear HRdx HBxx HRsx nBx hlx
  obtain ⟨st, hst, hst2, hst3⟩ : ∃ st : Nat, (if 20000 < (N : Int) then (20000 : Int) else (N : Int)) = (st : Int) ∧ st ≤ 20000 ∧ st = stepsM zs := by
    have hNN : (numM zs 5 2) = N := HN.out
    rw [numM_two] at hNN
    refine ⟨min N 20000, ?_, by omega, ?_⟩
    · split <;> omega
    · unfold stepsM
      rw [show atM zs 5 + 256 * atM zs 6 = (N : Int) from hNN]
      omega
  have HSt : Hid _ := hst
  have HSt3 : Hid _ := hst3
  clear hst hst3
  go_upto_region 9 with fail
  rw [HSt.out]
  clear hN2
  obtain ⟨l7, e7⟩ : ∃ y, longM zs 7 = y := ⟨_, rfl⟩
  obtain ⟨l15, e15⟩ : ∃ y, longM zs 15 = y := ⟨_, rfl⟩
  obtain ⟨l23, e23⟩ : ∃ y, (if schemeM (longM zs 23) = true then longM zs 23 else 0) = y := ⟨_, rfl⟩
  have b15 := long_bd HBd.out 15
  rw [e15] at b15
  have E7 : Hid (numM zs 7 8 = l7) := e7
  have E15 : Hid (numM zs 15 8 = l15) := e15
  have E23 : Hid _ := e23
  have E7' : Hid _ := e7
  have E15' : Hid _ := e15
  clear e7 e15 e23
  obtain ⟨b151, b152⟩ := b15
  go_wp2_with fail
  refine (number_any (w.heap.size + 1) len cap 7 8 a zs v10 HRd.out (by omega)).mono ?_
  rintro e v11 ⟨rfl, hR, hG⟩
  rw [E7.out]
  have HRdx : Hid _ := hR
  have HBxx : Hid _ := heap_gb HBx.out hG (show (w.heap.size + 2) ≠ (w.heap.size + 1) by omega)
  have HRsx : Hid _ := heap_gb HRs.out hG (show w.heap.size ≠ (w.heap.size + 1) by omega)
  have nBx := bel_gbs nB hG (show w.heap.size ≤ (w.heap.size + 1) by omega)
  have hlx : (w.heap.size + 3) ≤ v11.heap.size := Nat.le_trans hl0 hG.size
  clear HRd HBx HRs nB hl0
  have R1x : Hid _ := own_gb R1.out hG (show (w.heap.size + 1) < (w.heap.size + 3) by omega)
  clear R1
  have R1 := R1x
  clear R1x
  have R2x : Hid _ := own_gb R2.out hG (show (w.heap.size + 1) < (w.heap.size + 3) by omega)
  clear R2
  have R2 := R2x
  clear R2x
  have R3x : Hid _ := own_gb R3.out hG (show (w.heap.size + 1) < (w.heap.size + 3) by omega)
  clear R3
  have R3 := R3x
  clear R3x
  have RMx : Hid _ := own_gb RM.out hG (show (w.heap.size + 1) < (w.heap.size + 3) by omega)
  clear RM
  have RM := RMx
  clear RMx
  clear hG hR
  have HRd := HRdx
  have HBx := HBxx
  have HRs := HRsx
  have nB := nBx
  have hl0 := hlx
  clear HRdx HBxx HRsx nBx hlx
  have kk := box_cell HBx.out 2 (show (hartA (⟨(some ⟨gm, 0, none⟩), size, none, 0, (some ⟨g1, 0, none⟩), c1, (some ⟨g2, 0, none⟩), c2, (some ⟨g3, 0, none⟩), c3⟩ : PtrM) (⟨(List.replicate size 0), [], 0, (modeM y5), (y5 / 4 % 2 == 1), (y5 / 8 % 2 == 1), 0, 0, 0, (modeM y5), 0, 0, ⟨(emptyM y1), (emptyM y2), (emptyM y3)⟩⟩ : HartM))[2]? = some (.int .u64 0) from rfl)
  have ff := box_free HBx.out 2
  have hltv : (w.heap.size + 2) < v11.heap.size := by omega
  have gS := gb_set (gb_refl v11 (some (w.heap.size + 2))) 2 (.int .u64 l7)
  have HB3' := box_set HBx.out 2 (.int .u64 l7)
  have HB3 : Hid ((v11.setCell ⟨(w.heap.size + 2), 2, none⟩ (.int .u64 l7)).heap[(w.heap.size + 2)]? = some (.cells (hartA (⟨(some ⟨gm, 0, none⟩), size, none, 0, (some ⟨g1, 0, none⟩), c1, (some ⟨g2, 0, none⟩), c2, (some ⟨g3, 0, none⟩), c3⟩ : PtrM) (⟨(List.replicate size 0), [], l7, (modeM y5), (y5 / 4 % 2 == 1), (y5 / 8 % 2 == 1), 0, 0, 0, (modeM y5), 0, 0, ⟨(emptyM y1), (emptyM y2), (emptyM y3)⟩⟩ : HartM)) 31 (0, 0))) := by
    exact HB3'
  go_upto_region 10 with fail
  clear kk ff hltv HB3'
  have HRdx : Hid _ := HRd.out.gb gS (show (w.heap.size + 1) ≠ (w.heap.size + 2) by omega) HNa.out
  have HRsx : Hid _ := heap_gb HRs.out gS (show w.heap.size ≠ (w.heap.size + 2) by omega)
  have nBx := bel_gbs nB gS (show w.heap.size ≤ (w.heap.size + 2) by omega)
  have hlx : (w.heap.size + 3) ≤ (v11.setCell ⟨(w.heap.size + 2), 2, none⟩ (.int .u64 l7)).heap.size := Nat.le_trans hl0 gS.size
  clear HRd HBx HRs nB hl0
  have R1x : Hid _ := own_gb R1.out gS (show (w.heap.size + 2) < (w.heap.size + 3) by omega)
  clear R1
  have R1 := R1x
  clear R1x
  have R2x : Hid _ := own_gb R2.out gS (show (w.heap.size + 2) < (w.heap.size + 3) by omega)
  clear R2
  have R2 := R2x
  clear R2x
  have R3x : Hid _ := own_gb R3.out gS (show (w.heap.size + 2) < (w.heap.size + 3) by omega)
  clear R3
  have R3 := R3x
  clear R3x
  have RMx : Hid _ := own_gb RM.out gS (show (w.heap.size + 2) < (w.heap.size + 3) by omega)
  clear RM
  have RM := RMx
  clear RMx
  have HRd := HRdx
  have HBx := HB3
  have HRs := HRsx
  have nB := nBx
  have hl0 := hlx
  clear HRdx HB3 HRsx nBx hlx gS
  generalize v11.setCell ⟨(w.heap.size + 2), 2, none⟩ (.int .u64 l7) = v12 at HRd HBx HRs nB hl0 R1 R2 R3 RM ⊢
  go_wp2_with fail
  refine (number_any (w.heap.size + 1) len cap 15 8 a zs v12 HRd.out (by omega)).mono ?_
  rintro e v13 ⟨rfl, hR, hG⟩
  rw [E15.out]
  have HRdx : Hid _ := hR
  have HBxx : Hid _ := heap_gb HBx.out hG (show (w.heap.size + 2) ≠ (w.heap.size + 1) by omega)
  have HRsx : Hid _ := heap_gb HRs.out hG (show w.heap.size ≠ (w.heap.size + 1) by omega)
  have nBx := bel_gbs nB hG (show w.heap.size ≤ (w.heap.size + 1) by omega)
  have hlx : (w.heap.size + 3) ≤ v13.heap.size := Nat.le_trans hl0 hG.size
  clear HRd HBx HRs nB hl0
  have R1x : Hid _ := own_gb R1.out hG (show (w.heap.size + 1) < (w.heap.size + 3) by omega)
  clear R1
  have R1 := R1x
  clear R1x
  have R2x : Hid _ := own_gb R2.out hG (show (w.heap.size + 1) < (w.heap.size + 3) by omega)
  clear R2
  have R2 := R2x
  clear R2x
  have R3x : Hid _ := own_gb R3.out hG (show (w.heap.size + 1) < (w.heap.size + 3) by omega)
  clear R3
  have R3 := R3x
  clear R3x
  have RMx : Hid _ := own_gb RM.out hG (show (w.heap.size + 1) < (w.heap.size + 3) by omega)
  clear RM
  have RM := RMx
  clear RMx
  clear hG hR
  have HRd := HRdx
  have HBx := HBxx
  have HRs := HRsx
  have nB := nBx
  have hl0 := hlx
  clear HRdx HBxx HRsx nBx hlx
  have hcl : bits .andNot .u64 l15 3 = l15 / 4 * 4 := clear_u64 2 l15 3 4 rfl rfl (by omega) b151 b152
  have kk := box_cell HBx.out 7 (show (hartA (⟨(some ⟨gm, 0, none⟩), size, none, 0, (some ⟨g1, 0, none⟩), c1, (some ⟨g2, 0, none⟩), c2, (some ⟨g3, 0, none⟩), c3⟩ : PtrM) (⟨(List.replicate size 0), [], l7, (modeM y5), (y5 / 4 % 2 == 1), (y5 / 8 % 2 == 1), 0, 0, 0, (modeM y5), 0, 0, ⟨(emptyM y1), (emptyM y2), (emptyM y3)⟩⟩ : HartM))[7]? = some (.int .u64 0) from rfl)
  have ff := box_free HBx.out 7
  have hltv : (w.heap.size + 2) < v13.heap.size := by omega
  have gS := gb_set (gb_refl v13 (some (w.heap.size + 2))) 7 (.int .u64 (l15 / 4 * 4))
  have HB3' := box_set HBx.out 7 (.int .u64 (l15 / 4 * 4))
  have HB3 : Hid ((v13.setCell ⟨(w.heap.size + 2), 7, none⟩ (.int .u64 (l15 / 4 * 4))).heap[(w.heap.size + 2)]? = some (.cells (hartA (⟨(some ⟨gm, 0, none⟩), size, none, 0, (some ⟨g1, 0, none⟩), c1, (some ⟨g2, 0, none⟩), c2, (some ⟨g3, 0, none⟩), c3⟩ : PtrM) (⟨(List.replicate size 0), [], l7, (modeM y5), (y5 / 4 % 2 == 1), (y5 / 8 % 2 == 1), 0, (l15 / 4 * 4), 0, (modeM y5), 0, 0, ⟨(emptyM y1), (emptyM y2), (emptyM y3)⟩⟩ : HartM)) 31 (0, 0))) := by
    exact HB3'
  go_upto_region 11 with fail
  clear kk ff hltv HB3'
  have HRdx : Hid _ := HRd.out.gb gS (show (w.heap.size + 1) ≠ (w.heap.size + 2) by omega) HNa.out
  have HRsx : Hid _ := heap_gb HRs.out gS (show w.heap.size ≠ (w.heap.size + 2) by omega)
  have nBx := bel_gbs nB gS (show w.heap.size ≤ (w.heap.size + 2) by omega)
  have hlx : (w.heap.size + 3) ≤ (v13.setCell ⟨(w.heap.size + 2), 7, none⟩ (.int .u64 (l15 / 4 * 4))).heap.size := Nat.le_trans hl0 gS.size
  clear HRd HBx HRs nB hl0
  have R1x : Hid _ := own_gb R1.out gS (show (w.heap.size + 2) < (w.heap.size + 3) by omega)
  clear R1
  have R1 := R1x
  clear R1x
  have R2x : Hid _ := own_gb R2.out gS (show (w.heap.size + 2) < (w.heap.size + 3) by omega)
  clear R2
  have R2 := R2x
  clear R2x
  have R3x : Hid _ := own_gb R3.out gS (show (w.heap.size + 2) < (w.heap.size + 3) by omega)
  clear R3
  have R3 := R3x
  clear R3x
  have RMx : Hid _ := own_gb RM.out gS (show (w.heap.size + 2) < (w.heap.size + 3) by omega)
  clear RM
  have RM := RMx
  clear RMx
  have HRd := HRdx
  have HBx := HB3
  have HRs := HRsx
  have nB := nBx
  have hl0 := hlx
  clear HRdx HB3 HRsx nBx hlx gS
  generalize v13.setCell ⟨(w.heap.size + 2), 7, none⟩ (.int .u64 (l15 / 4 * 4)) = v14 at HRd HBx HRs nB hl0 R1 R2 R3 RM ⊢
  clear hcl b151 b152
  go_wp2_with fail
  refine (satp_any (w.heap.size + 1) len cap 23 a zs v14 HRd.out).mono ?_
  rintro e v15 ⟨rfl, hR, hG⟩
  rw [E23.out]
  have HRdx : Hid _ := hR
  have HBxx : Hid _ := heap_gb HBx.out hG (show (w.heap.size + 2) ≠ (w.heap.size + 1) by omega)
  have HRsx : Hid _ := heap_gb HRs.out hG (show w.heap.size ≠ (w.heap.size + 1) by omega)
  have nBx := bel_gbs nB hG (show w.heap.size ≤ (w.heap.size + 1) by omega)
  have hlx : (w.heap.size + 3) ≤ v15.heap.size := Nat.le_trans hl0 hG.size
  clear HRd HBx HRs nB hl0
  have R1x : Hid _ := own_gb R1.out hG (show (w.heap.size + 1) < (w.heap.size + 3) by omega)
  clear R1
  have R1 := R1x
  clear R1x
  have R2x : Hid _ := own_gb R2.out hG (show (w.heap.size + 1) < (w.heap.size + 3) by omega)
  clear R2
  have R2 := R2x
  clear R2x
  have R3x : Hid _ := own_gb R3.out hG (show (w.heap.size + 1) < (w.heap.size + 3) by omega)
  clear R3
  have R3 := R3x
  clear R3x
  have RMx : Hid _ := own_gb RM.out hG (show (w.heap.size + 1) < (w.heap.size + 3) by omega)
  clear RM
  have RM := RMx
  clear RMx
  clear hG hR
  have HRd := HRdx
  have HBx := HBxx
  have HRs := HRsx
  have nB := nBx
  have hl0 := hlx
  clear HRdx HBxx HRsx nBx hlx
  have kk := box_cell HBx.out 6 (show (hartA (⟨(some ⟨gm, 0, none⟩), size, none, 0, (some ⟨g1, 0, none⟩), c1, (some ⟨g2, 0, none⟩), c2, (some ⟨g3, 0, none⟩), c3⟩ : PtrM) (⟨(List.replicate size 0), [], l7, (modeM y5), (y5 / 4 % 2 == 1), (y5 / 8 % 2 == 1), 0, (l15 / 4 * 4), 0, (modeM y5), 0, 0, ⟨(emptyM y1), (emptyM y2), (emptyM y3)⟩⟩ : HartM))[6]? = some (.int .u64 0) from rfl)
  have ff := box_free HBx.out 6
  have hltv : (w.heap.size + 2) < v15.heap.size := by omega
  have gS := gb_set (gb_refl v15 (some (w.heap.size + 2))) 6 (.int .u64 l23)
  have HB3' := box_set HBx.out 6 (.int .u64 l23)
  have HB3 : Hid ((v15.setCell ⟨(w.heap.size + 2), 6, none⟩ (.int .u64 l23)).heap[(w.heap.size + 2)]? = some (.cells (hartA (⟨(some ⟨gm, 0, none⟩), size, none, 0, (some ⟨g1, 0, none⟩), c1, (some ⟨g2, 0, none⟩), c2, (some ⟨g3, 0, none⟩), c3⟩ : PtrM) (⟨(List.replicate size 0), [], l7, (modeM y5), (y5 / 4 % 2 == 1), (y5 / 8 % 2 == 1), l23, (l15 / 4 * 4), 0, (modeM y5), 0, 0, ⟨(emptyM y1), (emptyM y2), (emptyM y3)⟩⟩ : HartM)) 31 (0, 0))) := by
    exact HB3'
  go_upto_region 12 with fail
  clear kk ff hltv HB3'
  have HRdx : Hid _ := HRd.out.gb gS (show (w.heap.size + 1) ≠ (w.heap.size + 2) by omega) HNa.out
  have HRsx : Hid _ := heap_gb HRs.out gS (show w.heap.size ≠ (w.heap.size + 2) by omega)
  have nBx := bel_gbs nB gS (show w.heap.size ≤ (w.heap.size + 2) by omega)
  have hlx : (w.heap.size + 3) ≤ (v15.setCell ⟨(w.heap.size + 2), 6, none⟩ (.int .u64 l23)).heap.size := Nat.le_trans hl0 gS.size
  clear HRd HBx HRs nB hl0
  have R1x : Hid _ := own_gb R1.out gS (show (w.heap.size + 2) < (w.heap.size + 3) by omega)
  clear R1
  have R1 := R1x
  clear R1x
  have R2x : Hid _ := own_gb R2.out gS (show (w.heap.size + 2) < (w.heap.size + 3) by omega)
  clear R2
  have R2 := R2x
  clear R2x
  have R3x : Hid _ := own_gb R3.out gS (show (w.heap.size + 2) < (w.heap.size + 3) by omega)
  clear R3
  have R3 := R3x
  clear R3x
  have RMx : Hid _ := own_gb RM.out gS (show (w.heap.size + 2) < (w.heap.size + 3) by omega)
  clear RM
  have RM := RMx
  clear RMx
  have HRd := HRdx
  have HBx := HB3
  have HRs := HRsx
  have nB := nBx
  have hl0 := hlx
  clear HRdx HB3 HRsx nBx hlx gS
  generalize v15.setCell ⟨(w.heap.size + 2), 6, none⟩ (.int .u64 l23) = v16 at HRd HBx HRs nB hl0 R1 R2 R3 RM ⊢
  obtain ⟨rg, hrg⟩ : ∃ rg, regsM zs = rg := ⟨_, rfl⟩
  have hrl : rg.length = 8 := by rw [← hrg]; simp [regsM]
  have HRg : Hid _ := hrg
  clear hrg
  go_wp2_with fail
  refine (regs_any (w.heap.size + 1) len cap 31 a zs v16 HRd.out).mono ?_
  rintro e v17 ⟨⟨gr, rfl, oR⟩, hR, hG⟩
  have RG : Hid (OwnC 24 1 v17 (w.heap.size + 3) gr 8 8 (numsC rg)) := by
    have e : (0 :: (List.range 7).map fun j => longM zs (31 + 8 * j)) = rg := HRg.out
    rw [e] at oR
    exact own_low oR hl0
  clear oR
  have HRdx : Hid _ := hR
  have HBxx : Hid _ := heap_gb HBx.out hG (show (w.heap.size + 2) ≠ (w.heap.size + 1) by omega)
  have HRsx : Hid _ := heap_gb HRs.out hG (show w.heap.size ≠ (w.heap.size + 1) by omega)
  have nBx := bel_gbs nB hG (show w.heap.size ≤ (w.heap.size + 1) by omega)
  have hlx : (w.heap.size + 3) ≤ v17.heap.size := Nat.le_trans hl0 hG.size
  clear HRd HBx HRs nB hl0
  have R1x : Hid _ := own_gb R1.out hG (show (w.heap.size + 1) < (w.heap.size + 3) by omega)
  clear R1
  have R1 := R1x
  clear R1x
  have R2x : Hid _ := own_gb R2.out hG (show (w.heap.size + 1) < (w.heap.size + 3) by omega)
  clear R2
  have R2 := R2x
  clear R2x
  have R3x : Hid _ := own_gb R3.out hG (show (w.heap.size + 1) < (w.heap.size + 3) by omega)
  clear R3
  have R3 := R3x
  clear R3x
  have RMx : Hid _ := own_gb RM.out hG (show (w.heap.size + 1) < (w.heap.size + 3) by omega)
  clear RM
  have RM := RMx
  clear RMx
  clear hG hR
  have HRd := HRdx
  have HBx := HBxx
  have HRs := HRsx
  have nB := nBx
  have hl0 := hlx
  clear HRdx HBxx HRsx nBx hlx
  have kk := box_cell HBx.out 1 (show (hartA (⟨(some ⟨gm, 0, none⟩), size, none, 0, (some ⟨g1, 0, none⟩), c1, (some ⟨g2, 0, none⟩), c2, (some ⟨g3, 0, none⟩), c3⟩ : PtrM) (⟨(List.replicate size 0), [], l7, (modeM y5), (y5 / 4 % 2 == 1), (y5 / 8 % 2 == 1), l23, (l15 / 4 * 4), 0, (modeM y5), 0, 0, ⟨(emptyM y1), (emptyM y2), (emptyM y3)⟩⟩ : HartM))[1]? = some (.slice none [].length 0) from rfl)
  have ff := box_free HBx.out 1
  have hltv : (w.heap.size + 2) < v17.heap.size := by omega
  have gS := gb_set (gb_refl v17 (some (w.heap.size + 2))) 1 (.slice (some ⟨gr, 0, none⟩) 8 8)
  have HB3' := box_set HBx.out 1 (.slice (some ⟨gr, 0, none⟩) 8 8)
  have HB3 : Hid ((v17.setCell ⟨(w.heap.size + 2), 1, none⟩ (.slice (some ⟨gr, 0, none⟩) 8 8)).heap[(w.heap.size + 2)]? = some (.cells (hartA (⟨(some ⟨gm, 0, none⟩), size, (some ⟨gr, 0, none⟩), 8, (some ⟨g1, 0, none⟩), c1, (some ⟨g2, 0, none⟩), c2, (some ⟨g3, 0, none⟩), c3⟩ : PtrM) (⟨(List.replicate size 0), rg, l7, (modeM y5), (y5 / 4 % 2 == 1), (y5 / 8 % 2 == 1), l23, (l15 / 4 * 4), 0, (modeM y5), 0, 0, ⟨(emptyM y1), (emptyM y2), (emptyM y3)⟩⟩ : HartM)) 31 (0, 0))) := by
    have e : hartA (⟨(some ⟨gm, 0, none⟩), size, (some ⟨gr, 0, none⟩), 8, (some ⟨g1, 0, none⟩), c1, (some ⟨g2, 0, none⟩), c2, (some ⟨g3, 0, none⟩), c3⟩ : PtrM) (⟨(List.replicate size 0), rg, l7, (modeM y5), (y5 / 4 % 2 == 1), (y5 / 8 % 2 == 1), l23, (l15 / 4 * 4), 0, (modeM y5), 0, 0, ⟨(emptyM y1), (emptyM y2), (emptyM y3)⟩⟩ : HartM) = (hartA (⟨(some ⟨gm, 0, none⟩), size, none, 0, (some ⟨g1, 0, none⟩), c1, (some ⟨g2, 0, none⟩), c2, (some ⟨g3, 0, none⟩), c3⟩ : PtrM) (⟨(List.replicate size 0), [], l7, (modeM y5), (y5 / 4 % 2 == 1), (y5 / 8 % 2 == 1), l23, (l15 / 4 * 4), 0, (modeM y5), 0, 0, ⟨(emptyM y1), (emptyM y2), (emptyM y3)⟩⟩ : HartM)).setIfInBounds 1 (.slice (some ⟨gr, 0, none⟩) rg.length 8) := rfl
    rw [e, hrl]
    exact HB3'
  go_upto_region 13 with fail
  clear kk ff hltv HB3'
  have HRdx : Hid _ := HRd.out.gb gS (show (w.heap.size + 1) ≠ (w.heap.size + 2) by omega) HNa.out
  have HRsx : Hid _ := heap_gb HRs.out gS (show w.heap.size ≠ (w.heap.size + 2) by omega)
  have nBx := bel_gbs nB gS (show w.heap.size ≤ (w.heap.size + 2) by omega)
  have hlx : (w.heap.size + 3) ≤ (v17.setCell ⟨(w.heap.size + 2), 1, none⟩ (.slice (some ⟨gr, 0, none⟩) 8 8)).heap.size := Nat.le_trans hl0 gS.size
  clear HRd HBx HRs nB hl0
  have R1x : Hid _ := own_gb R1.out gS (show (w.heap.size + 2) < (w.heap.size + 3) by omega)
  clear R1
  have R1 := R1x
  clear R1x
  have R2x : Hid _ := own_gb R2.out gS (show (w.heap.size + 2) < (w.heap.size + 3) by omega)
  clear R2
  have R2 := R2x
  clear R2x
  have R3x : Hid _ := own_gb R3.out gS (show (w.heap.size + 2) < (w.heap.size + 3) by omega)
  clear R3
  have R3 := R3x
  clear R3x
  have RMx : Hid _ := own_gb RM.out gS (show (w.heap.size + 2) < (w.heap.size + 3) by omega)
  clear RM
  have RM := RMx
  clear RMx
  have RGx : Hid _ := own_gb RG.out gS (show (w.heap.size + 2) < (w.heap.size + 3) by omega)
  clear RG
  have RG := RGx
  clear RGx
  have HRd := HRdx
  have HBx := HB3
  have HRs := HRsx
  have nB := nBx
  have hl0 := hlx
  clear HRdx HB3 HRsx nBx hlx gS
  generalize v17.setCell ⟨(w.heap.size + 2), 1, none⟩ (.slice (some ⟨gr, 0, none⟩) 8 8) = v18 at HRd HBx HRs nB hl0 R1 R2 R3 RM RG ⊢
  obtain ⟨cnt, hcnt, hcb⟩ : ∃ cnt : Nat, atM zs 87 = cnt ∧ cnt ≤ 255 := ⟨(atM zs 87).toNat, by have := HBd.out 87; omega, by have := HBd.out 87; omega⟩
  have HCn : Hid _ := hcnt
  clear hcnt
  have HNg : Hid (0 < len → ∀ x, a = some x → x.block ≠ gm) := by
    have hg := (OwnC.facts RM.out).2.1
    intro h0 x hx
    rcases HBy.out.2.2 with h1 | ⟨g, off, e, hlt, _⟩
    · omega
    · rw [e] at hx
      cases hx
      simp only
      omega
  have hgm0 : w.heap.size + 3 ≤ gm := (OwnC.facts RM.out).2.1
  go_wp2_with fail
  refine (next_any (w.heap.size + 1) len cap 87 a zs v18 HRd.out).mono ?_
  rintro e v19 ⟨rfl, hR, hG⟩
  rw [HCn.out]
  have HRdx : Hid _ := hR
  have HBxx : Hid _ := heap_gb HBx.out hG (show (w.heap.size + 2) ≠ (w.heap.size + 1) by omega)
  have HRsx : Hid _ := heap_gb HRs.out hG (show w.heap.size ≠ (w.heap.size + 1) by omega)
  have nBx := bel_gbs nB hG (show w.heap.size ≤ (w.heap.size + 1) by omega)
  have hlx : (w.heap.size + 3) ≤ v19.heap.size := Nat.le_trans hl0 hG.size
  clear HRd HBx HRs nB hl0
  have R1x : Hid _ := own_gb R1.out hG (show (w.heap.size + 1) < (w.heap.size + 3) by omega)
  clear R1
  have R1 := R1x
  clear R1x
  have R2x : Hid _ := own_gb R2.out hG (show (w.heap.size + 1) < (w.heap.size + 3) by omega)
  clear R2
  have R2 := R2x
  clear R2x
  have R3x : Hid _ := own_gb R3.out hG (show (w.heap.size + 1) < (w.heap.size + 3) by omega)
  clear R3
  have R3 := R3x
  clear R3x
  have RMx : Hid _ := own_gb RM.out hG (show (w.heap.size + 1) < (w.heap.size + 3) by omega)
  clear RM
  have RM := RMx
  clear RMx
  have RGx : Hid _ := own_gb RG.out hG (show (w.heap.size + 1) < (w.heap.size + 3) by omega)
  clear RG
  have RG := RGx
  clear RGx
  clear hG hR
  have HRd := HRdx
  have HBx := HBxx
  have HRs := HRsx
  have nB := nBx
  have hl0 := hlx
  clear HRdx HBxx HRsx nBx hlx
  have HRL : Hid _ := HRg.out
  go_wp2_with fail
  go_loopw [39] (fun cv wr => ∃ (k i : Nat) (mem : List Int), k ≤ cnt ∧ cv = .int .u8 k ∧ i ≤ 88 + 258 * k ∧ runsM zs cnt 88 (List.replicate size 0) = runsM zs (cnt - k) i mem ∧ mem.length = size ∧ RdAt wr (w.heap.size + 1) a len cap zs i ∧ OwnC 5 1 wr (w.heap.size + 3) gm size size (bytC mem) ∧ Keeps v19 wr (w.heap.size + 1) gm gm) (fun cv _ => cnt - (intOf cv).toNat)
  case atStart => exact ⟨0, 88, _, Nat.zero_le _, rfl, by omega, rfl, List.length_replicate, HRd.out, RM.out, Keeps.refl _ _ _ _⟩
  case round =>
    obtain ⟨k, i, mem, hk, rfl, hi, hrun, hml, hRd, hOm, hKp⟩ := hrel
    have HRun : Hid _ := hrun
    have HRdk : Hid _ := hRd
    have HOmk : Hid _ := hOm
    have HKpk : Hid (Keeps v19 wr (w.heap.size + 1) gm gm) := hKp
    have HBk : Hid (wr.heap[(w.heap.size + 2)]? = some (.cells (hartA (⟨(some ⟨gm, 0, none⟩), size, (some ⟨gr, 0, none⟩), 8, (some ⟨g1, 0, none⟩), c1, (some ⟨g2, 0, none⟩), c2, (some ⟨g3, 0, none⟩), c3⟩ : PtrM) (⟨(List.replicate size 0), rg, l7, (modeM y5), (y5 / 4 % 2 == 1), (y5 / 8 % 2 == 1), l23, (l15 / 4 * 4), 0, (modeM y5), 0, 0, ⟨(emptyM y1), (emptyM y2), (emptyM y3)⟩⟩ : HartM)) 31 (0, 0))) := hKp.heap HBx.out (by omega) (by omega) (by omega)
    have c0 := box_cell HBk.out 0 (show (hartA (⟨(some ⟨gm, 0, none⟩), size, (some ⟨gr, 0, none⟩), 8, (some ⟨g1, 0, none⟩), c1, (some ⟨g2, 0, none⟩), c2, (some ⟨g3, 0, none⟩), c3⟩ : PtrM) (⟨(List.replicate size 0), rg, l7, (modeM y5), (y5 / 4 % 2 == 1), (y5 / 8 % 2 == 1), l23, (l15 / 4 * 4), 0, (modeM y5), 0, 0, ⟨(emptyM y1), (emptyM y2), (emptyM y3)⟩⟩ : HartM))[0]? = some (.slice (some ⟨gm, 0, none⟩) (List.replicate size (0 : Int)).length size) from rfl)
    rw [List.length_replicate] at c0
    have hlk : (w.heap.size + 2) < wr.heap.size := (Array.getElem?_eq_some_iff.1 HBk.out).1
    clear hrun hRd hOm hKp
    by_cases hkc : k < cnt
    · go_wp2_with fail
      refine (run_any (w.heap.size + 1) len cap i (w.heap.size + 3) gm size size a zs mem wr HRdk.out HOmk.out hml (by omega) (by omega) HNg.out).mono ?_
      rintro e v' ⟨rfl, hR', hO', hK'⟩
      have b2 := HBd.out (i + 2)
      have HR' : Hid _ := hR'
      have HO' : Hid _ := hO'
      have HK' : Hid (Keeps v19 v' (w.heap.size + 1) gm gm) := Keeps.trans HKpk.out hK'
      clear hR' hO' hK' c0
      go_wp2_with fail
      refine ⟨⟨k + 1, i + 3 + (atM zs (i + 2)).toNat, _, by omega, by go_num, by omega, ?_, ?_, HR'.out, HO'.out, HK'.out⟩, ?_⟩
      · rw [HRun.out, show cnt - k = (cnt - (k + 1)) + 1 by omega, runsM]
      · exact (lay_len zs _ _ _ mem).trans hml
      · simp [intOf]
        omega
    · have hkc' : k = cnt := by omega
      subst hkc'
      clear c0
      have hrm : runsM zs k 88 (List.replicate size 0) = (mem, i) := by rw [HRun.out, Nat.sub_self, runsM]
      have HXe : Hid (X = (⟨mem, rg, l7, (modeM y5), (y5 / 4 % 2 == 1), (y5 / 8 % 2 == 1), l23, (l15 / 4 * 4), 0, (modeM y5), 0, 0, ⟨(emptyM y1), (emptyM y2), (emptyM y3)⟩⟩ : HartM)) := by
        show _ = _
        rw [← HX.out]
        have hmem : memM zs = (mem, i) := by
          unfold memM
          rw [← HSz.out, HCn.out, Int.toNat_natCast]
          exact hrm
        unfold decodeHM
        rw [hmem, HRg.out, E7'.out, E15'.out, E23.out, E1.out, E2.out, E3.out, E5.out]
      have HPe : Hid (ps = (List.range st).map fun j => atM zs (i + j)) := by
        show _ = _
        have hmem : memM zs = (mem, i) := by
          unfold memM
          rw [← HSz.out, HCn.out, Int.toNat_natCast]
          exact hrm
        rw [← HPs.out]
        unfold picksM
        rw [hmem, ← HSt3.out]
      clear hrm HRun
      have HR1 : Hid (OwnC 91 6 wr (w.heap.size + 3) g1 (emptyM y1).es.length c1 (entsC (emptyM y1).es)) := own_keeps2 R1.out HKpk.out (by have := (OwnC.facts R1.out).2.1; omega) (by have := HG3.out; omega)
      have HR2 : Hid (OwnC 91 6 wr (w.heap.size + 3) g2 (emptyM y2).es.length c2 (entsC (emptyM y2).es)) := own_keeps2 R2.out HKpk.out (by have := (OwnC.facts R2.out).2.1; omega) (by have := HG3.out; omega)
      have HR3 : Hid (OwnC 91 6 wr (w.heap.size + 3) g3 (emptyM y3).es.length c3 (entsC (emptyM y3).es)) := own_keeps2 R3.out HKpk.out (by have := (OwnC.facts R3.out).2.1; omega) (by have := HG3.out; omega)
      have HRG : Hid (OwnC 24 1 wr (w.heap.size + 3) gr 8 8 (numsC rg)) := own_keeps2 RG.out HKpk.out (by have := (OwnC.facts RG.out).2.1; omega) (own_types RG.out RM.out (by decide))
      have HRs2 : Hid (wr.heap[w.heap.size]? = some (.cells zscriptA 34 (0, 0))) := HKpk.out.heap HRs.out (by omega) (by omega) (by omega)
      have nW := bel_keeps nB HKpk.out (by omega) (by omega) (by omega)
      have hlw : w.heap.size + 3 ≤ wr.heap.size := by omega
      have eHV : hartA (⟨(some ⟨gm, 0, none⟩), size, (some ⟨gr, 0, none⟩), 8, (some ⟨g1, 0, none⟩), c1, (some ⟨g2, 0, none⟩), c2, (some ⟨g3, 0, none⟩), c3⟩ : PtrM) (⟨(List.replicate size 0), rg, l7, (modeM y5), (y5 / 4 % 2 == 1), (y5 / 8 % 2 == 1), l23, (l15 / 4 * 4), 0, (modeM y5), 0, 0, ⟨(emptyM y1), (emptyM y2), (emptyM y3)⟩⟩ : HartM) = #[.slice (some ⟨gm, 0, none⟩) size size, .slice (some ⟨gr, 0, none⟩) 8 8, .int .u64 l7, .int .i64 (modeM y5), .bool (y5 / 4 % 2 == 1), .bool (y5 / 8 % 2 == 1), .int .u64 l23, .int .u64 (l15 / 4 * 4), .int .u64 0, .int .i64 (modeM y5), .int .i64 0, .int .u64 0, .int .i64 (emptyM y1).sets, .int .i64 (emptyM y1).ways, .slice (some ⟨g1, 0, none⟩) (emptyM y1).es.length c1, .int .i64 (emptyM y2).sets, .int .i64 (emptyM y2).ways, .slice (some ⟨g2, 0, none⟩) (emptyM y2).es.length c2, .int .i64 (emptyM y3).sets, .int .i64 (emptyM y3).ways, .slice (some ⟨g3, 0, none⟩) (emptyM y3).es.length c3] := by simp only [hartA, List.length_replicate, hrl]
      have hHs := hart_size (⟨(some ⟨gm, 0, none⟩), size, (some ⟨gr, 0, none⟩), 8, (some ⟨g1, 0, none⟩), c1, (some ⟨g2, 0, none⟩), c2, (some ⟨g3, 0, none⟩), c3⟩ : PtrM) (⟨(List.replicate size 0), rg, l7, (modeM y5), (y5 / 4 % 2 == 1), (y5 / 8 % 2 == 1), l23, (l15 / 4 * 4), 0, (modeM y5), 0, 0, ⟨(emptyM y1), (emptyM y2), (emptyM y3)⟩⟩ : HartM)
      have HLw : Hid (∀ u : World, u.heap[w.heap.size + 2]? = some (.cells (hartA (⟨(some ⟨gm, 0, none⟩), size, (some ⟨gr, 0, none⟩), 8, (some ⟨g1, 0, none⟩), c1, (some ⟨g2, 0, none⟩), c2, (some ⟨g3, 0, none⟩), c3⟩ : PtrM) (⟨(List.replicate size 0), rg, l7, (modeM y5), (y5 / 4 % 2 == 1), (y5 / 8 % 2 == 1), l23, (l15 / 4 * 4), 0, (modeM y5), 0, 0, ⟨(emptyM y1), (emptyM y2), (emptyM y3)⟩⟩ : HartM)) 31 (0, 0)) → (Instr.loadAt 31 (.pointer (some ⟨w.heap.size + 2, 0, none⟩))).run Try.prog u = .ok (.agg #[.slice (some ⟨gm, 0, none⟩) size size, .slice (some ⟨gr, 0, none⟩) 8 8, .int .u64 l7, .int .i64 (modeM y5), .bool (y5 / 4 % 2 == 1), .bool (y5 / 8 % 2 == 1), .int .u64 l23, .int .u64 (l15 / 4 * 4), .int .u64 0, .int .i64 (modeM y5), .int .i64 0, .int .u64 0, .int .i64 (emptyM y1).sets, .int .i64 (emptyM y1).ways, .slice (some ⟨g1, 0, none⟩) (emptyM y1).es.length c1, .int .i64 (emptyM y2).sets, .int .i64 (emptyM y2).ways, .slice (some ⟨g2, 0, none⟩) (emptyM y2).es.length c2, .int .i64 (emptyM y3).sets, .int .i64 (emptyM y3).ways, .slice (some ⟨g3, 0, none⟩) (emptyM y3).es.length c3]) u) := fun u hu => by
        have := box_whole (P := Try.prog) (T := 31) hu Try.underlying31 rfl (by rw [hHs]; exact hartI)
        rw [eHV] at this
        exact this
      clear eHV hHs
      generalize hartA (⟨(some ⟨gm, 0, none⟩), size, (some ⟨gr, 0, none⟩), 8, (some ⟨g1, 0, none⟩), c1, (some ⟨g2, 0, none⟩), c2, (some ⟨g3, 0, none⟩), c3⟩ : PtrM) (⟨(List.replicate size 0), rg, l7, (modeM y5), (y5 / 4 % 2 == 1), (y5 / 8 % 2 == 1), l23, (l15 / 4 * 4), 0, (modeM y5), 0, 0, ⟨(emptyM y1), (emptyM y2), (emptyM y3)⟩⟩ : HartM) = BX at HBk HLw
      go_upto_region 17 with fail
      have hF : wr.drew.heap[w.heap.size + 2]? = some (.cells BX 31 (0, 0)) := HBk.out
      refine wp_region_until (fun u => u.heap[w.heap.size + 2]? = some (.cells BX 31 (0, 0))) 4 (by kernel_rfl) ?_
      refine anyU_take 0 45 (.agg #[.slice (some ⟨gm, 0, none⟩) size size, .slice (some ⟨gr, 0, none⟩) 8 8, .int .u64 l7, .int .i64 (modeM y5), .bool (y5 / 4 % 2 == 1), .bool (y5 / 8 % 2 == 1), .int .u64 l23, .int .u64 (l15 / 4 * 4), .int .u64 0, .int .i64 (modeM y5), .int .i64 0, .int .u64 0, .int .i64 (emptyM y1).sets, .int .i64 (emptyM y1).ways, .slice (some ⟨g1, 0, none⟩) (emptyM y1).es.length c1, .int .i64 (emptyM y2).sets, .int .i64 (emptyM y2).ways, .slice (some ⟨g2, 0, none⟩) (emptyM y2).es.length c2, .int .i64 (emptyM y3).sets, .int .i64 (emptyM y3).ways, .slice (some ⟨g3, 0, none⟩) (emptyM y3).es.length c3]) rfl (by kernel_rfl) (by kernel_rfl) (by kernel_rfl) (by kernel_rfl) rfl (by kernel_rfl) (fun _ _ _ h => HQp.out _ _ _ _ _ h) (by kernel_rfl) (fun u hu => exec_load rfl (HLw.out u hu)) hF (by kernel_rfl) ?_
      simp only [Act.put, List.setIfInBounds_toArray, List.set_cons_succ, List.set_cons_zero]
      refine anyU_take 1 46 (.int .i64 (st : Nat)) rfl (by kernel_rfl) (by kernel_rfl) (by kernel_rfl) (by kernel_rfl) rfl (by kernel_rfl) (fun _ _ _ h => HQp.out _ _ _ _ _ h) (by kernel_rfl) (fun u hu => by kernel_rfl) hF (by kernel_rfl) ?_
      simp only [Act.put, List.setIfInBounds_toArray, List.set_cons_succ, List.set_cons_zero]
      refine anyU_call 2 47 (by kernel_rfl) rfl (by kernel_rfl) (by kernel_rfl) (f := 29) (args := #[.pointer (some ⟨w.heap.size + 1, 0, none⟩), .int .i64 (st : Nat)]) (by kernel_rfl) ?_
      refine (picks_any (w.heap.size + 1) len cap i st a zs wr.drew (HRdk.out.keep ((Below.refl _ _).drew)) hst2).mono ?_
      rintro e vP ⟨⟨gp, rfl, oP⟩, hRp, hGp⟩
      have HFp : vP.heap[w.heap.size + 2]? = some (.cells BX 31 (0, 0)) := heap_gb hF hGp (by omega)
      refine ⟨_, rfl, fun _ => HFp, ?_⟩
      simp only [Act.put, List.setIfInBounds_toArray, List.set_cons_succ, List.set_cons_zero]
      have nD : Below wr.heap.size wr wr.drew := (Below.refl _ _).drew
      refine anyU_free 3 48 (.agg #[.slice (some ⟨gm, 0, none⟩) size size, .slice (some ⟨gr, 0, none⟩) 8 8, .int .u64 l7, .int .i64 (modeM y5), .bool (y5 / 4 % 2 == 1), .bool (y5 / 8 % 2 == 1), .int .u64 l23, .int .u64 (l15 / 4 * 4), .int .u64 0, .int .i64 (modeM y5), .int .i64 0, .int .u64 0, .int .i64 (emptyM y1).sets, .int .i64 (emptyM y1).ways, .slice (some ⟨g1, 0, none⟩) (emptyM y1).es.length c1, .int .i64 (emptyM y2).sets, .int .i64 (emptyM y2).ways, .slice (some ⟨g2, 0, none⟩) (emptyM y2).es.length c2, .int .i64 (emptyM y3).sets, .int .i64 (emptyM y3).ways, .slice (some ⟨g3, 0, none⟩) (emptyM y3).es.length c3, .slice (some ⟨gp, 0, none⟩) st st]) rfl (by kernel_rfl) (by kernel_rfl) (by kernel_rfl) (by kernel_rfl) rfl (fun _ _ _ h => HQp.out _ _ _ _ _ h) (by kernel_rfl) (fun u => by kernel_rfl) (.inr HFp) (by kernel_rfl) ?_
      simp only [Act.put, List.setIfInBounds_toArray, List.set_cons_succ, List.set_cons_zero]
      have hRsP := heap_gb (heap_keep HRs2.out nD (by omega)) hGp (show w.heap.size ≠ w.heap.size + 1 by omega)
      have HSr : Hid _ := box_put (P := Try.prog) (T := 34) (V := #[.slice (some ⟨gm, 0, none⟩) size size, .slice (some ⟨gr, 0, none⟩) 8 8, .int .u64 l7, .int .i64 (modeM y5), .bool (y5 / 4 % 2 == 1), .bool (y5 / 8 % 2 == 1), .int .u64 l23, .int .u64 (l15 / 4 * 4), .int .u64 0, .int .i64 (modeM y5), .int .i64 0, .int .u64 0, .int .i64 (emptyM y1).sets, .int .i64 (emptyM y1).ways, .slice (some ⟨g1, 0, none⟩) (emptyM y1).es.length c1, .int .i64 (emptyM y2).sets, .int .i64 (emptyM y2).ways, .slice (some ⟨g2, 0, none⟩) (emptyM y2).es.length c2, .int .i64 (emptyM y3).sets, .int .i64 (emptyM y3).ways, .slice (some ⟨g3, 0, none⟩) (emptyM y3).es.length c3, .slice (some ⟨gp, 0, none⟩) st st]) hRsP scriptI rfl (by simp [Value.oneCell'])
      have e1 := box_putH (V := #[.slice (some ⟨gm, 0, none⟩) size size, .slice (some ⟨gr, 0, none⟩) 8 8, .int .u64 l7, .int .i64 (modeM y5), .bool (y5 / 4 % 2 == 1), .bool (y5 / 8 % 2 == 1), .int .u64 l23, .int .u64 (l15 / 4 * 4), .int .u64 0, .int .i64 (modeM y5), .int .i64 0, .int .u64 0, .int .i64 (emptyM y1).sets, .int .i64 (emptyM y1).ways, .slice (some ⟨g1, 0, none⟩) (emptyM y1).es.length c1, .int .i64 (emptyM y2).sets, .int .i64 (emptyM y2).ways, .slice (some ⟨g2, 0, none⟩) (emptyM y2).es.length c2, .int .i64 (emptyM y3).sets, .int .i64 (emptyM y3).ways, .slice (some ⟨g3, 0, none⟩) (emptyM y3).es.length c3, .slice (some ⟨gp, 0, none⟩) st st]) hRsP rfl
      have gR := setCells_gb w.heap.size (#[.slice (some ⟨gm, 0, none⟩) size size, .slice (some ⟨gr, 0, none⟩) 8 8, .int .u64 l7, .int .i64 (modeM y5), .bool (y5 / 4 % 2 == 1), .bool (y5 / 8 % 2 == 1), .int .u64 l23, .int .u64 (l15 / 4 * 4), .int .u64 0, .int .i64 (modeM y5), .int .i64 0, .int .u64 0, .int .i64 (emptyM y1).sets, .int .i64 (emptyM y1).ways, .slice (some ⟨g1, 0, none⟩) (emptyM y1).es.length c1, .int .i64 (emptyM y2).sets, .int .i64 (emptyM y2).ways, .slice (some ⟨g2, 0, none⟩) (emptyM y2).es.length c2, .int .i64 (emptyM y3).sets, .int .i64 (emptyM y3).ways, .slice (some ⟨g3, 0, none⟩) (emptyM y3).es.length c3, .slice (some ⟨gp, 0, none⟩) st st] : Array Value).toList 0 vP vP (gb_refl vP _)
      have nP := bel_gbs (Below.step nW nD (Nat.le_refl _)) hGp (by omega)
      have nR := bel_sets (Nat.le_refl w.heap.size) (#[.slice (some ⟨gm, 0, none⟩) size size, .slice (some ⟨gr, 0, none⟩) 8 8, .int .u64 l7, .int .i64 (modeM y5), .bool (y5 / 4 % 2 == 1), .bool (y5 / 8 % 2 == 1), .int .u64 l23, .int .u64 (l15 / 4 * 4), .int .u64 0, .int .i64 (modeM y5), .int .i64 0, .int .u64 0, .int .i64 (emptyM y1).sets, .int .i64 (emptyM y1).ways, .slice (some ⟨g1, 0, none⟩) (emptyM y1).es.length c1, .int .i64 (emptyM y2).sets, .int .i64 (emptyM y2).ways, .slice (some ⟨g2, 0, none⟩) (emptyM y2).es.length c2, .int .i64 (emptyM y3).sets, .int .i64 (emptyM y3).ways, .slice (some ⟨g3, 0, none⟩) (emptyM y3).es.length c3, .slice (some ⟨gp, 0, none⟩) st st] : Array Value).toList 0 vP nP
      have T1 := own_low (own_gb (own_gb (own_below HR1.out nD) hGp (by omega)) gR (by omega)) (show w.heap.size ≤ w.heap.size + 3 by omega)
      have T2 := own_low (own_gb (own_gb (own_below HR2.out nD) hGp (by omega)) gR (by omega)) (show w.heap.size ≤ w.heap.size + 3 by omega)
      have T3 := own_low (own_gb (own_gb (own_below HR3.out nD) hGp (by omega)) gR (by omega)) (show w.heap.size ≤ w.heap.size + 3 by omega)
      have TM := own_low (own_gb (own_gb (own_below HOmk.out nD) hGp (by omega)) gR (by omega)) (show w.heap.size ≤ w.heap.size + 3 by omega)
      have TG := own_low (own_gb (own_gb (own_below HRG.out nD) hGp (by omega)) gR (by omega)) (show w.heap.size ≤ w.heap.size + 3 by omega)
      have hdw : wr.drew.heap.size = wr.heap.size := rfl
      have TP := own_low (own_gb oP gR (by omega)) (show w.heap.size ≤ wr.drew.heap.size by omega)
      have HFn : Hid (DecOwn w X ps (.returned (.agg #[.slice (some ⟨gm, 0, none⟩) size size, .slice (some ⟨gr, 0, none⟩) 8 8, .int .u64 l7, .int .i64 (modeM y5), .bool (y5 / 4 % 2 == 1), .bool (y5 / 8 % 2 == 1), .int .u64 l23, .int .u64 (l15 / 4 * 4), .int .u64 0, .int .i64 (modeM y5), .int .i64 0, .int .u64 0, .int .i64 (emptyM y1).sets, .int .i64 (emptyM y1).ways, .slice (some ⟨g1, 0, none⟩) (emptyM y1).es.length c1, .int .i64 (emptyM y2).sets, .int .i64 (emptyM y2).ways, .slice (some ⟨g2, 0, none⟩) (emptyM y2).es.length c2, .int .i64 (emptyM y3).sets, .int .i64 (emptyM y3).ways, .slice (some ⟨g3, 0, none⟩) (emptyM y3).es.length c3, .slice (some ⟨gp, 0, none⟩) st st])) (vP.setCells w.heap.size 0 (#[.slice (some ⟨gm, 0, none⟩) size size, .slice (some ⟨gr, 0, none⟩) 8 8, .int .u64 l7, .int .i64 (modeM y5), .bool (y5 / 4 % 2 == 1), .bool (y5 / 8 % 2 == 1), .int .u64 l23, .int .u64 (l15 / 4 * 4), .int .u64 0, .int .i64 (modeM y5), .int .i64 0, .int .u64 0, .int .i64 (emptyM y1).sets, .int .i64 (emptyM y1).ways, .slice (some ⟨g1, 0, none⟩) (emptyM y1).es.length c1, .int .i64 (emptyM y2).sets, .int .i64 (emptyM y2).ways, .slice (some ⟨g2, 0, none⟩) (emptyM y2).es.length c2, .int .i64 (emptyM y3).sets, .int .i64 (emptyM y3).ways, .slice (some ⟨g3, 0, none⟩) (emptyM y3).es.length c3, .slice (some ⟨gp, 0, none⟩) st st] : Array Value).toList)) := by
        show DecOwn w X ps _ _
        rw [HXe.out, HPe.out]
        refine ⟨⟨g1, c1, g2, c2, g3, c3, gm, size, gr, 8, gp, st, ?_, T1, T2, T3, ?_, ?_, ?_, by omega, by omega, by omega⟩, nR⟩
        · simp only [scriptA, hml, hrl, List.length_map, List.length_range]
        · simp only [hml]
          exact TM
        · simp only [hrl]
          exact TG
        · simp only [List.length_map, List.length_range]
          exact TP
      refine anyU_store 4 rfl (T := 34) (x := .tmp 2) (y := .tmp 48) (by kernel_rfl) (by kernel_rfl) (by kernel_rfl) (by kernel_rfl) (b := w.heap.size) (off := 0) (by kernel_rfl) (by kernel_rfl) HSr.out (.inl (by kernel_rfl)) ?_
      refine anyU_done (by kernel_rfl) ?_ _
      clear T1 T2 T3 TM TG TP
      go_wp2_with fail
      rw [← HQ.out]
      refine ret_box (b := w.heap.size) Try.results7 rfl (box_wholeV (P := Try.prog) e1 Try.underlying34 rfl scriptI) rfl ?_
      exact HFn.out

end Go.Proofs.Ythekickjjaleaac
