import Derived.Test.YthekickjjaleaacGreatPack13
import Derived.Test.YthekickjjaleaacGreatPack14
import Derived.Test.YthekickjjaleaacGreatPack15
import Derived.Test.YthekickjjaleaacGreatPack22
import Derived.Test.YthekickjjaleaacGreatPack31
import Derived.Test.YthekickjjaleaacGreatPack32
/- The walk of law FnExactTlbTranslate. Written by mklawt.py. -/
namespace Go.Proofs.YthekickjjaleaacGreat
open Go.RowKit
set_option linter.unusedVariables false

theorem KSep.keep {base : Nat} {w w' : World} {x : Value} {k : KM} (h : KSep base w x k) (hb : Below w.heap.size w w') : KSep base w' x k := by
  obtain ⟨g1, c1, g2, c2, g3, c3, h0, h1, h2, h3, h4⟩ := h
  exact ⟨g1, c1, g2, c2, g3, c3, h0, own_below h1 hb, own_below h2 hb, own_below h3 hb, h4⟩

theorem TransSep.keep {base : Nat} {w w' : World} {x : Value} {r : (Int × Int) × KM} (h : TransSep base w x r) (hb : Below w.heap.size w w') : TransSep base w' x r := by
  obtain ⟨s1, s2, s3, h0, h1, h2, h3, h4⟩ := h
  exact ⟨s1, s2, s3, h0, own_below h1 hb, own_below h2 hb, own_below h3 hb, h4⟩

theorem TransOwn.keep {base : Nat} {w w' : World} {x : Value} {r : (Int × Int) × KM} (h : TransOwn base w x r) (hb : Below w.heap.size w w') : TransOwn base w' x r := by
  obtain ⟨s1, s2, s3, h0, h1, h2, h3⟩ := h
  exact ⟨s1, s2, s3, h0, own_below h1 hb, own_below h2 hb, own_below h3 hb⟩

theorem KSep.at {base : Nat} {w : World} {x : Value} {k : KM} (h : KSep base w x k) (h1 : tlbOk k.i) (h2 : tlbOk k.d) (h3 : tlbOk k.p) : KAt w x k := by
  obtain ⟨g1, c1, g2, c2, g3, c3, rfl, o1, o2, o3, _⟩ := h
  exact ⟨_, _, _, _, _, _, rfl, TlbOwn.at ⟨g1, c1, rfl, o1⟩ h1, TlbOwn.at ⟨g2, c2, rfl, o2⟩ h2, TlbOwn.at ⟨g3, c3, rfl, o3⟩ h3⟩

theorem own_ne {e T : TypeId} {size base n pb : Nat} {w : World} {s : Value} {cs : List Value} {cur : Array Value} {q : Nat × Nat} (h : w.ownsRow base e size s n cs) (hp : w.heap[pb]? = some (.cells cur T q)) (hT : T ≠ e) : s.ownBlock ≠ some pb := by
  rcases h.2 with ⟨h1, _⟩ | ⟨g, cap, cur', h1, _, h3, _⟩
  · rw [h1]; simp [Value.ownBlock]
  · rw [h1]
    simp only [Value.ownBlock]
    intro he
    have : g = pb := Option.some.inj he
    subst this
    rw [h3] at hp
    cases hp
    exact hT rfl

theorem own_set {e T : TypeId} {size base n pb : Nat} {w w' : World} {s : Value} {cs : List Value} {cur : Array Value} {q : Nat × Nat} (h : w.ownsRow base e size s n cs) (hp : w.heap[pb]? = some (.cells cur T q)) (hT : T ≠ e) (hg : w.grownBy w' (some pb)) : w'.ownsRow base e size s n cs :=
  h.kept hg (.inr (own_ne h hp hT))

theorem not_inX {g1 g2 g3 n1 n2 n3 d1 d2 d3 g : Nat} (h1 : g ≠ g1) (h2 : g ≠ g2) (h3 : g ≠ g3) : ¬ inRows (.slice (some ⟨g1, 0, none⟩) n1 d1) (.slice (some ⟨g2, 0, none⟩) n2 d2) (.slice (some ⟨g3, 0, none⟩) n3 d3) g := by
  intro h
  simp only [inRows, Value.ownBlock, Option.some.injEq] at h
  omega

theorem eleven_putAll {v : World} {p : Nat} {T : TypeId} {a b c d e f g h i j k x0 x1 x2 x3 x4 x5 x6 x7 x8 x9 x10 : Value} (hh : v.heap[p]? = some (.cells #[a, b, c, d, e, f, g, h, i, j, k] T (0, 0))) : (((((((((((v.setCell ⟨p, 0, none⟩ x0).setCell ⟨p, 1, none⟩ x1).setCell ⟨p, 2, none⟩ x2).setCell ⟨p, 3, none⟩ x3).setCell ⟨p, 4, none⟩ x4).setCell ⟨p, 5, none⟩ x5).setCell ⟨p, 6, none⟩ x6).setCell ⟨p, 7, none⟩ x7).setCell ⟨p, 8, none⟩ x8).setCell ⟨p, 9, none⟩ x9).setCell ⟨p, 10, none⟩ x10).heap[p]? = some (.cells #[x0, x1, x2, x3, x4, x5, x6, x7, x8, x9, x10] T (0, 0)) := by
  simp [World.setCell, Array.getElem?_modify, hh]

set_option maxRecDepth 20000 in
set_option maxHeartbeats 12800000 in
theorem trans_walk (a0 : Option Addr) (len cap : Nat) (zs : List Int) (mode : Int) (sum mxr : Bool) (satp : Int) (k : KM) (a1 : Option Addr) (c1 : Nat) (a2 : Option Addr) (c2 : Nat) (a3 : Option Addr) (c3 : Nat) (kind va pick : Int) (w : World) (hB : Byt w a0 len zs)
    (t1 : tlbIn w k.i a1 c1) (t2 : tlbIn w k.d a2 c2) (t3 : tlbIn w k.p a3 c3) (hs : 0 ≤ satp ∧ satp ≤ 18446744073709551615) (hv : 0 ≤ va ∧ va ≤ 18446744073709551615) (hlm : (len : Int) ≤ 9223372036854775807) :
    Calls Tryz.prog 3 #[.slice a0 len cap, .agg #[.int .i64 mode, .bool sum, .bool mxr, .int .u64 satp], .agg #[.int .i64 k.i.sets, .int .i64 k.i.ways, .slice a1 k.i.es.length c1, .int .i64 k.d.sets, .int .i64 k.d.ways, .slice a2 k.d.es.length c2, .int .i64 k.p.sets, .int .i64 k.p.ways, .slice a3 k.p.es.length c3], .int .i64 kind, .int .u64 va, .int .i64 pick] w fun e w' => e = .returned (.bool true) ∧ Below w.heap.size w w' := by
  have n1 := ((Below.refl w.heap.size w).alloc (Nat.le_refl _) (Obj.cells #[.int .i64 mode, .bool sum, .bool mxr, .int .u64 satp] 25)).alloc (by simp) (Obj.cells #[.int .i64 k.i.sets, .int .i64 k.i.ways, .slice a1 k.i.es.length c1, .int .i64 k.d.sets, .int .i64 k.d.ways, .slice a2 k.d.es.length c2, .int .i64 k.p.sets, .int .i64 k.p.ways, .slice a3 k.p.es.length c3] 30)
  have H1 : Hid (((w.alloc (Obj.cells #[.int .i64 mode, .bool sum, .bool mxr, .int .u64 satp] 25)).alloc (Obj.cells #[.int .i64 k.i.sets, .int .i64 k.i.ways, .slice a1 k.i.es.length c1, .int .i64 k.d.sets, .int .i64 k.d.ways, .slice a2 k.d.es.length c2, .int .i64 k.p.sets, .int .i64 k.p.ways, .slice a3 k.p.es.length c3] 30)).heap[w.heap.size]? = some (.cells #[.int .i64 mode, .bool sum, .bool mxr, .int .u64 satp] 25 (0, 0))) := by
    show _ = _
    rw [heap_alloc_old _ _ (by simp)]
    exact heap_alloc_new w _
  have H2 : Hid (((w.alloc (Obj.cells #[.int .i64 mode, .bool sum, .bool mxr, .int .u64 satp] 25)).alloc (Obj.cells #[.int .i64 k.i.sets, .int .i64 k.i.ways, .slice a1 k.i.es.length c1, .int .i64 k.d.sets, .int .i64 k.d.ways, .slice a2 k.d.es.length c2, .int .i64 k.p.sets, .int .i64 k.p.ways, .slice a3 k.p.es.length c3] 30)).heap[w.heap.size + 1]? = some (.cells #[.int .i64 k.i.sets, .int .i64 k.i.ways, .slice a1 k.i.es.length c1, .int .i64 k.d.sets, .int .i64 k.d.ways, .slice a2 k.d.es.length c2, .int .i64 k.p.sets, .int .i64 k.p.ways, .slice a3 k.p.es.length c3] 30 (0, 0))) := by
    have := heap_alloc_new (w.alloc (Obj.cells #[.int .i64 mode, .bool sum, .bool mxr, .int .u64 satp] 25)) (Obj.cells #[.int .i64 k.i.sets, .int .i64 k.i.ways, .slice a1 k.i.es.length c1, .int .i64 k.d.sets, .int .i64 k.d.ways, .slice a2 k.d.es.length c2, .int .i64 k.p.sets, .int .i64 k.p.ways, .slice a3 k.p.es.length c3] 30)
    simp only [World.size_alloc] at this
    exact this
  have l1 : ((w.alloc (Obj.cells #[.int .i64 mode, .bool sum, .bool mxr, .int .u64 satp] 25)).alloc (Obj.cells #[.int .i64 k.i.sets, .int .i64 k.i.ways, .slice a1 k.i.es.length c1, .int .i64 k.d.sets, .int .i64 k.d.ways, .slice a2 k.d.es.length c2, .int .i64 k.p.sets, .int .i64 k.p.ways, .slice a3 k.p.es.length c3] 30)).heap.size = w.heap.size + 2 := by simp
  by_cases hl : len ≤ 1048576
  case neg =>
    go_enter Tryz.func3, Tryz.ntmps3
    go_wp2_with fail
    go_ret
    exact ⟨rfl, n1⟩
  have HBB : Hid (Byt w a0 len zs) := hB
  have HBy : Hid (∀ (u : World) g, Blk 5 u g zs → Byt u (some ⟨g, 0, none⟩) len zs) := fun u g h => by
    have := h.byt hB.2.1
    rw [hB.1] at this
    exact this
  have HZl : Hid (zs.length = len) := hB.1
  obtain ⟨X, hX⟩ : ∃ X, tlbTransM zs mode sum mxr satp k kind va pick = X := ⟨_, rfl⟩
  have HX : Hid (tlbTransM zs mode sum mxr satp k kind va pick = X) := hX
  have TI1 : Hid (tlbIn w k.i a1 c1) := t1
  have TI2 : Hid (tlbIn w k.d a2 c2) := t2
  have TI3 : Hid (tlbIn w k.p a3 c3) := t3
  have q1 : (k.i.es.length : Int) ≤ 9223372036854775807 := by have := t1.2.2.2.2; omega
  have q2 : (k.d.es.length : Int) ≤ 9223372036854775807 := by have := t2.2.2.2.2; omega
  have q3 : (k.p.es.length : Int) ≤ 9223372036854775807 := by have := t3.2.2.2.2; omega
  have HSz : Hid (∀ u, Calls Tryz.prog 7 #[.agg #[.int .i64 k.i.sets, .int .i64 k.i.ways, .slice a1 k.i.es.length c1, .int .i64 k.d.sets, .int .i64 k.d.ways, .slice a2 k.d.es.length c2, .int .i64 k.p.sets, .int .i64 k.p.ways, .slice a3 k.p.es.length c3], .int .i64 1048576] u fun e w' => (∃ r : Int, e = .returned (.int .i64 r) ∧ -1 ≤ r ∧ r ≤ 1048576 ∧ (0 ≤ r → k.i.es.length ≤ 1048576 ∧ k.d.es.length ≤ 1048576 ∧ k.p.es.length ≤ 1048576)) ∧ Below u.heap.size u w') := fun u => szCaches_any k a1 a2 a3 c1 c2 c3 u q1 q2 q3
  clear hX hB t1 t2 t3 q1 q2 q3
  go_enter Tryz.func3, Tryz.ntmps3
  go_wp2_with fail
  generalize (w.alloc (Obj.cells #[.int .i64 mode, .bool sum, .bool mxr, .int .u64 satp] 25)).alloc (Obj.cells #[.int .i64 k.i.sets, .int .i64 k.i.ways, .slice a1 k.i.es.length c1, .int .i64 k.d.sets, .int .i64 k.d.ways, .slice a2 k.d.es.length c2, .int .i64 k.p.sets, .int .i64 k.p.ways, .slice a3 k.p.es.length c3] 30) = v1 at n1 H1 H2 l1 ⊢
  refine (HSz.out v1).mono ?_
  rintro e v2 ⟨⟨rz, rfl, hr0, hr1, hrz⟩, B2⟩
  by_cases hneg : rz < 0
  · have hd : decide (rz < 0) = true := by simpa using hneg
    have n2 := Below.step n1 B2 (Nat.le_refl _)
    go_wp2_with fail
    go_ret
    exact ⟨rfl, n2⟩
  have hd : decide (rz < 0) = false := by simpa using hneg
  obtain ⟨li, ld, lp⟩ := hrz (by omega)
  have HK1 : Hid (tlbOk k.i) := ⟨TI1.out.2.1, TI1.out.2.2.1, TI1.out.2.2.2.1, li⟩
  have HK2 : Hid (tlbOk k.d) := ⟨TI2.out.2.1, TI2.out.2.2.1, TI2.out.2.2.2.1, ld⟩
  have HK3 : Hid (tlbOk k.p) := ⟨TI3.out.2.1, TI3.out.2.2.1, TI3.out.2.2.2.1, lp⟩
  have HCt : Hid (∀ v, Below v1.heap.size v1 v → v.heap[w.heap.size]? = some (.cells #[.int .i64 mode, .bool sum, .bool mxr, .int .u64 satp] 25 (0, 0))) := fun v h => (h.block w.heap.size (by omega)).trans H1.out
  have HCk : Hid (∀ v, Below v1.heap.size v1 v → v.heap[w.heap.size + 1]? = some (.cells #[.int .i64 k.i.sets, .int .i64 k.i.ways, .slice a1 k.i.es.length c1, .int .i64 k.d.sets, .int .i64 k.d.ways, .slice a2 k.d.es.length c2, .int .i64 k.p.sets, .int .i64 k.p.ways, .slice a3 k.p.es.length c3] 30 (0, 0))) := fun v h => (h.block (w.heap.size + 1) (by omega)).trans H2.out
  have HTb : Hid (∀ v, Below v1.heap.size v1 v → Calls Tryz.prog 9 #[.slice a0 len cap] v fun e w' => e = .returned (.slice (some ⟨v.heap.size, 0, none⟩) len len) ∧ Blk 5 w' v.heap.size zs ∧ Below v.heap.size v w') := fun v h => toByteS_any a0 len cap zs v (HBB.out.keep (Below.step n1 h (Nat.le_refl _))) hl
  have HTx : Hid (∀ v : World, Calls Tryz.prog 10 #[.agg #[.int .i64 mode, .bool sum, .bool mxr, .int .u64 satp]] v fun e w' => e = .returned (ctxV mode sum mxr satp) ∧ Below v.heap.size v w') := fun v => toCtx_any mode sum mxr satp v
  have HTk : Hid (∀ v, Below v1.heap.size v1 v → Calls Tryz.prog 11 #[.agg #[.int .i64 k.i.sets, .int .i64 k.i.ways, .slice a1 k.i.es.length c1, .int .i64 k.d.sets, .int .i64 k.d.ways, .slice a2 k.d.es.length c2, .int .i64 k.p.sets, .int .i64 k.p.ways, .slice a3 k.p.es.length c3]] v fun e w' => (∃ x, e = .returned x ∧ KSep v.heap.size w' x k) ∧ Below v.heap.size v w') := fun v h => by
    have n := Below.step n1 h (Nat.le_refl _)
    exact toCaches_any k a1 a2 a3 c1 c2 c3 v (TI1.out.1.keep n) (TI2.out.1.keep n) (TI3.out.1.keep n) li ld lp
  have HSp : Hid (∀ v x (ab : Option Addr), KAt v x k → Byt v ab len zs → Calls Tryz.prog 8 #[.slice ab len len, ctxV mode sum mxr satp, x, .int .i64 kind, .int .u64 va, .int .i64 pick] v fun e w' => (∃ x, e = .returned x ∧ TransOwn v.heap.size w' x X) ∧ Below v.heap.size v w') := fun v x ab hk hb => by
    have := specTrans_any ab len len zs mode sum mxr satp x k kind va pick v hk hb hl (Nat.le_refl _) (by omega) hv.1 hv.2 hs.1 hs.2
    rw [HX.out] at this
    exact this
  have HIm : Hid (∀ v x (ab : Option Addr), KAt v x k → Byt v ab len zs → Calls Tryz.prog 12 #[.slice ab len len, ctxV mode sum mxr satp, x, .int .i64 kind, .int .u64 va, .int .i64 pick] v fun e w' => (∃ x, e = .returned x ∧ TransSep v.heap.size w' x X) ∧ Below v.heap.size v w') := fun v x ab hk hb => by
    have := implTrans_any ab len len zs mode sum mxr satp x k kind va pick v hk hb hl hv.1 hv.2 hs.1 hs.2
    rw [HX.out] at this
    exact this
  have HXl : Hid (X.2.i.es.length ≤ 1048576 ∧ X.2.d.es.length ≤ 1048576 ∧ X.2.p.es.length ≤ 1048576) := by
    rw [← HX.out]
    exact trans_len zs mode sum mxr satp k kind va pick li ld lp
  clear HX HSz H1 H2 HBB TI1 TI2 TI3 hrz
  obtain ⟨⟨xc, xp⟩, y⟩ := X
  simp only at HSp HIm HXl
  have s2 := B2.size
  go_wp2_with fail
  refine wp_region_chain [1, 5, 9, 10] 11 ?_ _ [(0, 1), (2, 3), (6, 3)] (fun c x w' => (c = 1 → ∃ g, x = .slice (some ⟨g, 0, none⟩) len len ∧ Byt w' (some ⟨g, 0, none⟩) len zs) ∧ (c = 5 → KSep v2.heap.size w' x k) ∧ (c = 9 → TransOwn v2.heap.size w' x ((xc, xp), y)) ∧ (c = 10 → ∃ pb, x = .pointer (some ⟨pb, 0, none⟩) ∧ v2.heap.size ≤ pb ∧ w'.heap[pb]? = some (.cells #[.int .i64 0, .int .u64 0, .int .i64 0, .int .i64 0, .slice none 0 0, .int .i64 0, .int .i64 0, .slice none 0 0, .int .i64 0, .int .i64 0, .slice none 0 0] 38 (0, 0)))) (by kernel_rfl) (by kernel_rfl) (by kernel_rfl) rfl (by kernel_rfl) ?h7 ?r7 ?c7 ?q7
  case h7 =>
    intro w0 hw0
    have ne := lies_some w0
    have l0 := hw0.size
    have b0 := Below.step B2 hw0 (Nat.le_refl _)
    obtain ⟨⟨q0, q1, q2, q3⟩, _⟩ := four_cells (HCt.out w0 b0)
    obtain ⟨p0, p1, p2, p3, p4, p5, p6, p7, p8⟩ := nine_cells (HCk.out w0 b0)
    have lw : w.heap.size < w0.heap.size := by omega
    have lw' : w.heap.size + 1 < w0.heap.size := by omega
    have y0 := lies_cell q0 lw; have y1 := lies_cell q1 lw; have y2 := lies_cell q2 lw; have y3 := lies_cell q3 lw
    have z0 := lies_cell p0 lw'; have z1 := lies_cell p1 lw'; have z2 := lies_cell p2 lw'; have z3 := lies_cell p3 lw'; have z4 := lies_cell p4 lw'; have z5 := lies_cell p5 lw'; have z6 := lies_cell p6 lw'; have z7 := lies_cell p7 lw'; have z8 := lies_cell p8 lw'
    clear q0 q1 q2 q3 p0 p1 p2 p3 p4 p5 p6 p7 p8
    simp only [cutL, List.take_succ_cons, List.take_zero, List.drop_succ_cons, List.drop_zero, List.cons_append, List.nil_append, List.append_nil]
    repeat (go_big_quiet_step ((go_at_call 10; exact lies_quiet _ (HTx.out _))))
    refine wpQuiet_nil ?_
    exact rfl
  case r7 =>
    intro c hc x w1 w2 hR hb
    refine ⟨fun h => ?_, fun h => (hR.2.1 h).keep hb, fun h => (hR.2.2.1 h).keep hb, fun h => ?_⟩
    · obtain ⟨g, e, hy⟩ := hR.1 h
      exact ⟨g, e, hy.keep hb⟩
    · obtain ⟨pb, e, h1, h2⟩ := hR.2.2.2 h
      exact ⟨pb, e, h1, heap_keep h2 hb (Array.getElem?_eq_some_iff.1 h2).1⟩
  case c7 =>
    intro c hc o ho p w' hw hwt
    have b0 := Below.step B2 hw (Nat.le_refl _)
    simp only [List.mem_cons, List.not_mem_nil, or_false] at hc
    rcases hc with rfl | rfl | rfl | rfl
    · have ho' := Option.some.inj ho
      subst ho'
      refine .inr ⟨9, #[.slice a0 len cap], by kernel_rfl, (HTb.out w' b0).mono ?_⟩
      rintro e w2 ⟨rfl, hbk, nb⟩
      refine ⟨_, rfl, ⟨fun _ => ⟨_, rfl, HBy.out _ _ hbk⟩, fun h => by omega, fun h => by omega, fun h => by omega⟩, nb⟩
    · have ho' := Option.some.inj ho
      subst ho'
      refine .inr ⟨11, #[.agg #[.int .i64 k.i.sets, .int .i64 k.i.ways, .slice a1 k.i.es.length c1, .int .i64 k.d.sets, .int .i64 k.d.ways, .slice a2 k.d.es.length c2, .int .i64 k.p.sets, .int .i64 k.p.ways, .slice a3 k.p.es.length c3]], by kernel_rfl, (HTk.out w' b0).mono ?_⟩
      rintro e w2 ⟨⟨x, rfl, hks⟩, nb⟩
      obtain ⟨g1, d1, g2, d2, g3, d3, e0, o1, o2, o3, o4⟩ := hks
      exact ⟨_, rfl, ⟨fun h => by omega, fun _ => ⟨g1, d1, g2, d2, g3, d3, e0, own_low o1 hw.size, own_low o2 hw.size, own_low o3 hw.size, o4⟩, fun h => by omega, fun h => by omega⟩, nb⟩
    · have ho' := Option.some.inj ho
      subst ho'
      obtain ⟨g, e1, hy⟩ := (hwt 1 (by simp) (by kernel_rfl)).1 rfl
      have hks := (hwt 5 (by simp) (by kernel_rfl)).2.1 rfl
      refine .inr ⟨8, #[p 1, ctxV mode sum mxr satp, p 5, .int .i64 kind, .int .u64 va, .int .i64 pick], by kernel_rfl, ?_⟩
      rw [e1]
      refine (HSp.out w' (p 5) (some ⟨g, 0, none⟩) (hks.at HK1.out HK2.out HK3.out) hy).mono ?_
      rintro e w2 ⟨⟨x, rfl, ht⟩, nb⟩
      obtain ⟨s1, s2, s3, e0, o1, o2, o3⟩ := ht
      exact ⟨_, rfl, ⟨fun h => by omega, fun h => by omega, fun _ => ⟨s1, s2, s3, e0, own_low o1 hw.size, own_low o2 hw.size, own_low o3 hw.size⟩, fun h => by omega⟩, nb⟩
    · have ho' := Option.some.inj ho
      subst ho'
      exact .inl ⟨.pointer (some ⟨w'.heap.size, 0, none⟩), w'.alloc (Obj.cells #[.int .i64 0, .int .u64 0, .int .i64 0, .int .i64 0, .slice none 0 0, .int .i64 0, .int .i64 0, .slice none 0 0, .int .i64 0, .int .i64 0, .slice none 0 0] 38), by kernel_rfl, ⟨fun h => by omega, fun h => by omega, fun h => by omega, fun _ => ⟨_, rfl, hw.size, heap_alloc_new w' _⟩⟩, (Below.refl _ _).alloc (Nat.le_refl _) _⟩
  case q7 =>
    intro p w' hw hall
    obtain ⟨sw1, sw2, sw3, e9, o1, o2, o3⟩ := (hall 9 (by simp)).2.2.1 rfl
    obtain ⟨swb, e10, hpb, hZ⟩ := (hall 10 (by simp)).2.2.2 rfl
    clear hall
    simp only [wput, dstOf, List.getElem?_toArray, List.getElem?_cons_succ, List.getElem?_cons_zero, Option.bind_some]
    generalize p 1 = z1
    generalize p 5 = z5
    generalize p 9 = z9 at e9
    generalize p 10 = z10 at e10
    subst e9 e10
    clear p
    have lZ : swb < w'.heap.size := (Array.getElem?_eq_some_iff.1 hZ).1
    obtain ⟨swa1, swc1, rfl, _⟩ := rowS_own o1
    obtain ⟨swa2, swc2, rfl, _⟩ := rowS_own o2
    obtain ⟨swa3, swc3, rfl, _⟩ := rowS_own o3
    simp only at o1 o2 o3
    have HZZ : Hid _ := hZ
    have HO1 : Hid _ := o1
    have HO2 : Hid _ := o2
    have HO3 : Hid _ := o3
    have lw' := hw.size
    obtain ⟨i0, i1, i2, i3, i4, i5, i6, i7, i8, i9, i10⟩ := eleven_cells hZ
    have ff := eleven_free hZ
    have f0 := ff 0; have f1 := ff 1; have f2 := ff 2; have f3 := ff 3; have f4 := ff 4; have f5 := ff 5; have f6 := ff 6; have f7 := ff 7; have f8 := ff 8; have f9 := ff 9; have f10 := ff 10
    clear ff hZ o1 o2 o3
    go_wp2_with fail
    have gW := gb11 w' swb (.int .i64 xc) (.int .u64 xp) (.int .i64 y.i.sets) (.int .i64 y.i.ways) (.slice swa1 y.i.es.length swc1) (.int .i64 y.d.sets) (.int .i64 y.d.ways) (.slice swa2 y.d.es.length swc2) (.int .i64 y.p.sets) (.int .i64 y.p.ways) (.slice swa3 y.p.es.length swc3)
    have Esw : Hid ((((((((((((w'.setCell ⟨swb, 0, none⟩ (.int .i64 xc)).setCell ⟨swb, 1, none⟩ (.int .u64 xp)).setCell ⟨swb, 2, none⟩ (.int .i64 y.i.sets)).setCell ⟨swb, 3, none⟩ (.int .i64 y.i.ways)).setCell ⟨swb, 4, none⟩ (.slice swa1 y.i.es.length swc1)).setCell ⟨swb, 5, none⟩ (.int .i64 y.d.sets)).setCell ⟨swb, 6, none⟩ (.int .i64 y.d.ways)).setCell ⟨swb, 7, none⟩ (.slice swa2 y.d.es.length swc2)).setCell ⟨swb, 8, none⟩ (.int .i64 y.p.sets)).setCell ⟨swb, 9, none⟩ (.int .i64 y.p.ways)).setCell ⟨swb, 10, none⟩ (.slice swa3 y.p.es.length swc3)).heap[swb]? = some (.cells #[.int .i64 xc, .int .u64 xp, .int .i64 y.i.sets, .int .i64 y.i.ways, .slice swa1 y.i.es.length swc1, .int .i64 y.d.sets, .int .i64 y.d.ways, .slice swa2 y.d.es.length swc2, .int .i64 y.p.sets, .int .i64 y.p.ways, .slice swa3 y.p.es.length swc3] 38 (0, 0))) := eleven_putAll HZZ.out
    have Rsw1 : Hid ((((((((((((w'.setCell ⟨swb, 0, none⟩ (.int .i64 xc)).setCell ⟨swb, 1, none⟩ (.int .u64 xp)).setCell ⟨swb, 2, none⟩ (.int .i64 y.i.sets)).setCell ⟨swb, 3, none⟩ (.int .i64 y.i.ways)).setCell ⟨swb, 4, none⟩ (.slice swa1 y.i.es.length swc1)).setCell ⟨swb, 5, none⟩ (.int .i64 y.d.sets)).setCell ⟨swb, 6, none⟩ (.int .i64 y.d.ways)).setCell ⟨swb, 7, none⟩ (.slice swa2 y.d.es.length swc2)).setCell ⟨swb, 8, none⟩ (.int .i64 y.p.sets)).setCell ⟨swb, 9, none⟩ (.int .i64 y.p.ways)).setCell ⟨swb, 10, none⟩ (.slice swa3 y.p.es.length swc3)).ownsRow v2.heap.size 101 6 (.slice swa1 y.i.es.length swc1) y.i.es.length (entsC y.i.es)) := own_set HO1.out HZZ.out (by decide) gW
    have Rsw2 : Hid ((((((((((((w'.setCell ⟨swb, 0, none⟩ (.int .i64 xc)).setCell ⟨swb, 1, none⟩ (.int .u64 xp)).setCell ⟨swb, 2, none⟩ (.int .i64 y.i.sets)).setCell ⟨swb, 3, none⟩ (.int .i64 y.i.ways)).setCell ⟨swb, 4, none⟩ (.slice swa1 y.i.es.length swc1)).setCell ⟨swb, 5, none⟩ (.int .i64 y.d.sets)).setCell ⟨swb, 6, none⟩ (.int .i64 y.d.ways)).setCell ⟨swb, 7, none⟩ (.slice swa2 y.d.es.length swc2)).setCell ⟨swb, 8, none⟩ (.int .i64 y.p.sets)).setCell ⟨swb, 9, none⟩ (.int .i64 y.p.ways)).setCell ⟨swb, 10, none⟩ (.slice swa3 y.p.es.length swc3)).ownsRow v2.heap.size 101 6 (.slice swa2 y.d.es.length swc2) y.d.es.length (entsC y.d.es)) := own_set HO2.out HZZ.out (by decide) gW
    have Rsw3 : Hid ((((((((((((w'.setCell ⟨swb, 0, none⟩ (.int .i64 xc)).setCell ⟨swb, 1, none⟩ (.int .u64 xp)).setCell ⟨swb, 2, none⟩ (.int .i64 y.i.sets)).setCell ⟨swb, 3, none⟩ (.int .i64 y.i.ways)).setCell ⟨swb, 4, none⟩ (.slice swa1 y.i.es.length swc1)).setCell ⟨swb, 5, none⟩ (.int .i64 y.d.sets)).setCell ⟨swb, 6, none⟩ (.int .i64 y.d.ways)).setCell ⟨swb, 7, none⟩ (.slice swa2 y.d.es.length swc2)).setCell ⟨swb, 8, none⟩ (.int .i64 y.p.sets)).setCell ⟨swb, 9, none⟩ (.int .i64 y.p.ways)).setCell ⟨swb, 10, none⟩ (.slice swa3 y.p.es.length swc3)).ownsRow v2.heap.size 101 6 (.slice swa3 y.p.es.length swc3) y.p.es.length (entsC y.p.es)) := own_set HO3.out HZZ.out (by decide) gW
    have bv3 : Below v2.heap.size v2 (((((((((((w'.setCell ⟨swb, 0, none⟩ (.int .i64 xc)).setCell ⟨swb, 1, none⟩ (.int .u64 xp)).setCell ⟨swb, 2, none⟩ (.int .i64 y.i.sets)).setCell ⟨swb, 3, none⟩ (.int .i64 y.i.ways)).setCell ⟨swb, 4, none⟩ (.slice swa1 y.i.es.length swc1)).setCell ⟨swb, 5, none⟩ (.int .i64 y.d.sets)).setCell ⟨swb, 6, none⟩ (.int .i64 y.d.ways)).setCell ⟨swb, 7, none⟩ (.slice swa2 y.d.es.length swc2)).setCell ⟨swb, 8, none⟩ (.int .i64 y.p.sets)).setCell ⟨swb, 9, none⟩ (.int .i64 y.p.ways)).setCell ⟨swb, 10, none⟩ (.slice swa3 y.p.es.length swc3)) := hw.grown gW hw.size (fun q hq => by cases hq; omega)
    have Lsw : swb < (((((((((((w'.setCell ⟨swb, 0, none⟩ (.int .i64 xc)).setCell ⟨swb, 1, none⟩ (.int .u64 xp)).setCell ⟨swb, 2, none⟩ (.int .i64 y.i.sets)).setCell ⟨swb, 3, none⟩ (.int .i64 y.i.ways)).setCell ⟨swb, 4, none⟩ (.slice swa1 y.i.es.length swc1)).setCell ⟨swb, 5, none⟩ (.int .i64 y.d.sets)).setCell ⟨swb, 6, none⟩ (.int .i64 y.d.ways)).setCell ⟨swb, 7, none⟩ (.slice swa2 y.d.es.length swc2)).setCell ⟨swb, 8, none⟩ (.int .i64 y.p.sets)).setCell ⟨swb, 9, none⟩ (.int .i64 y.p.ways)).setCell ⟨swb, 10, none⟩ (.slice swa3 y.p.es.length swc3)).heap.size := Nat.lt_of_lt_of_le lZ gW.size
    have Usw : Hid (∀ g, inRows (.slice swa1 y.i.es.length swc1) (.slice swa2 y.d.es.length swc2) (.slice swa3 y.p.es.length swc3) g → v2.heap.size ≤ g ∧ g < (((((((((((w'.setCell ⟨swb, 0, none⟩ (.int .i64 xc)).setCell ⟨swb, 1, none⟩ (.int .u64 xp)).setCell ⟨swb, 2, none⟩ (.int .i64 y.i.sets)).setCell ⟨swb, 3, none⟩ (.int .i64 y.i.ways)).setCell ⟨swb, 4, none⟩ (.slice swa1 y.i.es.length swc1)).setCell ⟨swb, 5, none⟩ (.int .i64 y.d.sets)).setCell ⟨swb, 6, none⟩ (.int .i64 y.d.ways)).setCell ⟨swb, 7, none⟩ (.slice swa2 y.d.es.length swc2)).setCell ⟨swb, 8, none⟩ (.int .i64 y.p.sets)).setCell ⟨swb, 9, none⟩ (.int .i64 y.p.ways)).setCell ⟨swb, 10, none⟩ (.slice swa3 y.p.es.length swc3)).heap.size) := fun g h => by
      rcases h with h | h | h
      · exact own_in Rsw1.out g h
      · exact own_in Rsw2.out g h
      · exact own_in Rsw3.out g h
    generalize (((((((((((w'.setCell ⟨swb, 0, none⟩ (.int .i64 xc)).setCell ⟨swb, 1, none⟩ (.int .u64 xp)).setCell ⟨swb, 2, none⟩ (.int .i64 y.i.sets)).setCell ⟨swb, 3, none⟩ (.int .i64 y.i.ways)).setCell ⟨swb, 4, none⟩ (.slice swa1 y.i.es.length swc1)).setCell ⟨swb, 5, none⟩ (.int .i64 y.d.sets)).setCell ⟨swb, 6, none⟩ (.int .i64 y.d.ways)).setCell ⟨swb, 7, none⟩ (.slice swa2 y.d.es.length swc2)).setCell ⟨swb, 8, none⟩ (.int .i64 y.p.sets)).setCell ⟨swb, 9, none⟩ (.int .i64 y.p.ways)).setCell ⟨swb, 10, none⟩ (.slice swa3 y.p.es.length swc3)) = v3 at Usw Esw Rsw1 Rsw2 Rsw3 bv3 Lsw ⊢
    have Bv3 := Below.step B2 bv3 (Nat.le_refl _)
    have sv3 := bv3.size
    clear i0 i1 i2 i3 i4 i5 i6 i7 i8 i9 i10 f0 f1 f2 f3 f4 f5 f6 f7 f8 f9 f10 gW HZZ HO1 HO2 HO3 hw lw' lZ
    refine (HTb.out v3 Bv3).mono ?_
    rintro e v4 ⟨rfl, hbk, n4⟩
    have Bv4 := Below.step Bv3 n4 (Nat.le_refl _)
    have s4 := n4.size
    have K0 : Hid (Blk 5 v4 v3.heap.size zs) := hbk
    have l4 : v3.heap.size < v4.heap.size := hbk.lt
    replace Esw := hid_keep Esw n4
    clear hbk
    obtain ⟨b0, b1, b2, b3, b4, b5, b6, b7, b8⟩ := nine_cells (HCk.out v4 Bv4)
    have lk : w.heap.size + 1 < v4.heap.size := by omega
    go_wp2_with fail
    refine (HTk.out v4 Bv4).mono ?_
    rintro e v5 ⟨⟨x, rfl, gx1, cx1, gx2, cx2, gx3, cx3, rfl, ox1, ox2, ox3, dx1, dx2, dx3⟩, n5⟩
    clear b0 b1 b2 b3 b4 b5 b6 b7 b8 lk
    have lx1 := (own_at ox1).2
    have lx2 := (own_at ox2).2
    have lx3 := (own_at ox3).2
    simp only at lx1 lx2 lx3
    have s5 := n5.size
    have m6 := (Below.refl v5.heap.size v5).alloc (Nat.le_refl _) (Obj.cells #[.int .i64 k.i.sets, .int .i64 k.i.ways, .slice (some ⟨gx1, 0, none⟩) k.i.es.length cx1, .int .i64 k.d.sets, .int .i64 k.d.ways, .slice (some ⟨gx2, 0, none⟩) k.d.es.length cx2, .int .i64 k.p.sets, .int .i64 k.p.ways, .slice (some ⟨gx3, 0, none⟩) k.p.es.length cx3] 36)
    have X6 : Hid ((v5.alloc (Obj.cells #[.int .i64 k.i.sets, .int .i64 k.i.ways, .slice (some ⟨gx1, 0, none⟩) k.i.es.length cx1, .int .i64 k.d.sets, .int .i64 k.d.ways, .slice (some ⟨gx2, 0, none⟩) k.d.es.length cx2, .int .i64 k.p.sets, .int .i64 k.p.ways, .slice (some ⟨gx3, 0, none⟩) k.p.es.length cx3] 36)).heap[v5.heap.size]? = some (.cells #[.int .i64 k.i.sets, .int .i64 k.i.ways, .slice (some ⟨gx1, 0, none⟩) k.i.es.length cx1, .int .i64 k.d.sets, .int .i64 k.d.ways, .slice (some ⟨gx2, 0, none⟩) k.d.es.length cx2, .int .i64 k.p.sets, .int .i64 k.p.ways, .slice (some ⟨gx3, 0, none⟩) k.p.es.length cx3] 36 (0, 0))) := heap_alloc_new v5 _
    have l6 : v5.heap.size < (v5.alloc (Obj.cells #[.int .i64 k.i.sets, .int .i64 k.i.ways, .slice (some ⟨gx1, 0, none⟩) k.i.es.length cx1, .int .i64 k.d.sets, .int .i64 k.d.ways, .slice (some ⟨gx2, 0, none⟩) k.d.es.length cx2, .int .i64 k.p.sets, .int .i64 k.p.ways, .slice (some ⟨gx3, 0, none⟩) k.p.es.length cx3] 36)).heap.size := by simp
    go_wp2_with fail
    generalize v5.alloc (Obj.cells #[.int .i64 k.i.sets, .int .i64 k.i.ways, .slice (some ⟨gx1, 0, none⟩) k.i.es.length cx1, .int .i64 k.d.sets, .int .i64 k.d.ways, .slice (some ⟨gx2, 0, none⟩) k.d.es.length cx2, .int .i64 k.p.sets, .int .i64 k.p.ways, .slice (some ⟨gx3, 0, none⟩) k.p.es.length cx3] 36) = v6 at m6 X6 l6 ⊢
    have n46 := Below.step n5 m6 (Nat.le_refl _)
    have Bv6 := Below.step Bv4 n46 (Nat.le_refl _)
    have n36 := Below.step n4 n46 (Nat.le_refl _)
    have Ox1 : Hid _ := own_below ox1 m6
    have Ox2 : Hid _ := own_below ox2 m6
    have Ox3 : Hid _ := own_below ox3 m6
    have HKX : Hid (∀ u, Below v6.heap.size v6 u → KAt u (.agg #[.int .i64 k.i.sets, .int .i64 k.i.ways, .slice (some ⟨gx1, 0, none⟩) k.i.es.length cx1, .int .i64 k.d.sets, .int .i64 k.d.ways, .slice (some ⟨gx2, 0, none⟩) k.d.es.length cx2, .int .i64 k.p.sets, .int .i64 k.p.ways, .slice (some ⟨gx3, 0, none⟩) k.p.es.length cx3]) k) := fun u hu => (KSep.keep ⟨gx1, cx1, gx2, cx2, gx3, cx3, rfl, Ox1.out, Ox2.out, Ox3.out, dx1, dx2, dx3⟩ hu).at HK1.out HK2.out HK3.out
    have HYX : Hid (∀ u, Below v6.heap.size v6 u → Byt u (some ⟨v3.heap.size, 0, none⟩) len zs) := fun u hu => HBy.out u _ (K0.out.keep (Below.step n46 hu (Nat.le_refl _)) l4)
    replace Esw := hid_keep Esw n46
    have K6 : Hid (Blk 5 v6 v3.heap.size zs) := K0.out.keep n46 l4
    have Q1 : Hid _ := own_below Rsw1.out n36
    have Q2 : Hid _ := own_below Rsw2.out n36
    have Q3 : Hid _ := own_below Rsw3.out n36
    clear ox1 ox2 ox3 n5 m6 K0 Rsw1 Rsw2 Rsw3 n4
    have s6 := n46.size
    refine wp_region_chain [7, 8] 9 ?_ _ [(0, 7)] (fun c x w' => (c = 7 → TransSep v6.heap.size w' x ((xc, xp), y)) ∧ (c = 8 → ∃ pb, x = .pointer (some ⟨pb, 0, none⟩) ∧ v6.heap.size ≤ pb ∧ w'.heap[pb]? = some (.cells #[.int .i64 0, .int .u64 0, .int .i64 0, .int .i64 0, .slice none 0 0, .int .i64 0, .int .i64 0, .slice none 0 0, .int .i64 0, .int .i64 0, .slice none 0 0] 38 (0, 0)))) (by kernel_rfl) (by kernel_rfl) (by kernel_rfl) rfl (by kernel_rfl) ?h10 ?r10 ?c10 ?q10
    case h10 =>
      intro w0 hw0
      have ne := lies_some w0
      have l0 := hw0.size
      have b0' := Below.step Bv6 hw0 (Nat.le_refl _)
      obtain ⟨⟨q0, q1, q2, q3⟩, _⟩ := four_cells (HCt.out w0 b0')
      obtain ⟨p0, p1, p2, p3, p4, p5, p6, p7, p8⟩ := nine_cells (hid_keep X6 hw0).out
      have lw : w.heap.size < w0.heap.size := by omega
      have lw' : v5.heap.size < w0.heap.size := by omega
      have y0 := lies_cell q0 lw; have y1 := lies_cell q1 lw; have y2 := lies_cell q2 lw; have y3 := lies_cell q3 lw
      have z0 := lies_cell p0 lw'; have z1 := lies_cell p1 lw'; have z2 := lies_cell p2 lw'; have z3 := lies_cell p3 lw'; have z4 := lies_cell p4 lw'; have z5 := lies_cell p5 lw'; have z6 := lies_cell p6 lw'; have z7 := lies_cell p7 lw'; have z8 := lies_cell p8 lw'
      clear q0 q1 q2 q3 p0 p1 p2 p3 p4 p5 p6 p7 p8
      simp only [cutL, List.take_succ_cons, List.take_zero, List.drop_zero, List.append_nil]
      repeat (go_big_quiet_step ((go_at_call 10; exact lies_quiet _ (HTx.out _))))
      refine wpQuiet_nil ?_
      exact rfl
    case r10 =>
      intro c hc x w1 w2 hR hb
      refine ⟨fun h => (hR.1 h).keep hb, fun h => ?_⟩
      obtain ⟨pb, e, h1, h2⟩ := hR.2 h
      exact ⟨pb, e, h1, heap_keep h2 hb (Array.getElem?_eq_some_iff.1 h2).1⟩
    case c10 =>
      intro c hc o ho p w' hw hwt
      simp only [List.mem_cons, List.not_mem_nil, or_false] at hc
      rcases hc with rfl | rfl
      · have ho' := Option.some.inj ho
        subst ho'
        refine .inr ⟨12, #[.slice (some ⟨v3.heap.size, 0, none⟩) len len, ctxV mode sum mxr satp, .agg #[.int .i64 k.i.sets, .int .i64 k.i.ways, .slice (some ⟨gx1, 0, none⟩) k.i.es.length cx1, .int .i64 k.d.sets, .int .i64 k.d.ways, .slice (some ⟨gx2, 0, none⟩) k.d.es.length cx2, .int .i64 k.p.sets, .int .i64 k.p.ways, .slice (some ⟨gx3, 0, none⟩) k.p.es.length cx3], .int .i64 kind, .int .u64 va, .int .i64 pick], by kernel_rfl, (HIm.out w' _ _ (HKX.out w' hw) (HYX.out w' hw)).mono ?_⟩
        rintro e w2 ⟨⟨x, rfl, ht⟩, nb⟩
        obtain ⟨s1, s2, s3, e0, o1, o2, o3, o4⟩ := ht
        exact ⟨_, rfl, ⟨fun _ => ⟨s1, s2, s3, e0, own_low o1 hw.size, own_low o2 hw.size, own_low o3 hw.size, o4⟩, fun h => by omega⟩, nb⟩
      · have ho' := Option.some.inj ho
        subst ho'
        exact .inl ⟨.pointer (some ⟨w'.heap.size, 0, none⟩), w'.alloc (Obj.cells #[.int .i64 0, .int .u64 0, .int .i64 0, .int .i64 0, .slice none 0 0, .int .i64 0, .int .i64 0, .slice none 0 0, .int .i64 0, .int .i64 0, .slice none 0 0] 38), by kernel_rfl, ⟨fun h => by omega, fun _ => ⟨_, rfl, hw.size, heap_alloc_new w' _⟩⟩, (Below.refl _ _).alloc (Nat.le_refl _) _⟩
    case q10 =>
      intro p w' hw hall
      obtain ⟨sg1, sg2, sg3, e9, o1, o2, o3, o4⟩ := (hall 7 (by simp)).1 rfl
      obtain ⟨sgb, e10, hpg, hZ⟩ := (hall 8 (by simp)).2 rfl
      clear hall
      simp only [wput, dstOf, List.getElem?_toArray, List.getElem?_cons_succ, List.getElem?_cons_zero, Option.bind_some]
      generalize p 7 = z9 at e9
      generalize p 8 = z10 at e10
      subst e9 e10
      clear p
      have lZ : sgb < w'.heap.size := (Array.getElem?_eq_some_iff.1 hZ).1
      obtain ⟨sga1, sgc1, rfl, _⟩ := rowS_own o1
      obtain ⟨sga2, sgc2, rfl, _⟩ := rowS_own o2
      obtain ⟨sga3, sgc3, rfl, _⟩ := rowS_own o3
      simp only at o1 o2 o3
      have HZZ : Hid _ := hZ
      have HO1 : Hid _ := o1
      have HO2 : Hid _ := o2
      have HO3 : Hid _ := o3
      have lw' := hw.size
      obtain ⟨i0, i1, i2, i3, i4, i5, i6, i7, i8, i9, i10⟩ := eleven_cells hZ
      have ff := eleven_free hZ
      have f0 := ff 0; have f1 := ff 1; have f2 := ff 2; have f3 := ff 3; have f4 := ff 4; have f5 := ff 5; have f6 := ff 6; have f7 := ff 7; have f8 := ff 8; have f9 := ff 9; have f10 := ff 10
      clear ff hZ o1 o2 o3
      obtain ⟨e0', e1', e2', e3', e4', e5', e6', e7', e8', e9', e10'⟩ := eleven_cells (hid_keep Esw hw).out
      have lsw : swb < w'.heap.size := Nat.lt_of_lt_of_le (Array.getElem?_eq_some_iff.1 Esw.out).1 hw.size
      have nsg : sgb ≠ swb := by have := (Array.getElem?_eq_some_iff.1 Esw.out).1; omega
      have nsg' : swb ≠ sgb := by have := (Array.getElem?_eq_some_iff.1 Esw.out).1; omega
      go_wp2_with fail
      have gW := gb11 w' sgb (.int .i64 xc) (.int .u64 xp) (.int .i64 y.i.sets) (.int .i64 y.i.ways) (.slice sga1 y.i.es.length sgc1) (.int .i64 y.d.sets) (.int .i64 y.d.ways) (.slice sga2 y.d.es.length sgc2) (.int .i64 y.p.sets) (.int .i64 y.p.ways) (.slice sga3 y.p.es.length sgc3)
      have Esg : Hid ((((((((((((w'.setCell ⟨sgb, 0, none⟩ (.int .i64 xc)).setCell ⟨sgb, 1, none⟩ (.int .u64 xp)).setCell ⟨sgb, 2, none⟩ (.int .i64 y.i.sets)).setCell ⟨sgb, 3, none⟩ (.int .i64 y.i.ways)).setCell ⟨sgb, 4, none⟩ (.slice sga1 y.i.es.length sgc1)).setCell ⟨sgb, 5, none⟩ (.int .i64 y.d.sets)).setCell ⟨sgb, 6, none⟩ (.int .i64 y.d.ways)).setCell ⟨sgb, 7, none⟩ (.slice sga2 y.d.es.length sgc2)).setCell ⟨sgb, 8, none⟩ (.int .i64 y.p.sets)).setCell ⟨sgb, 9, none⟩ (.int .i64 y.p.ways)).setCell ⟨sgb, 10, none⟩ (.slice sga3 y.p.es.length sgc3)).heap[sgb]? = some (.cells #[.int .i64 xc, .int .u64 xp, .int .i64 y.i.sets, .int .i64 y.i.ways, .slice sga1 y.i.es.length sgc1, .int .i64 y.d.sets, .int .i64 y.d.ways, .slice sga2 y.d.es.length sgc2, .int .i64 y.p.sets, .int .i64 y.p.ways, .slice sga3 y.p.es.length sgc3] 38 (0, 0))) := eleven_putAll HZZ.out
      have Rsg1 : Hid ((((((((((((w'.setCell ⟨sgb, 0, none⟩ (.int .i64 xc)).setCell ⟨sgb, 1, none⟩ (.int .u64 xp)).setCell ⟨sgb, 2, none⟩ (.int .i64 y.i.sets)).setCell ⟨sgb, 3, none⟩ (.int .i64 y.i.ways)).setCell ⟨sgb, 4, none⟩ (.slice sga1 y.i.es.length sgc1)).setCell ⟨sgb, 5, none⟩ (.int .i64 y.d.sets)).setCell ⟨sgb, 6, none⟩ (.int .i64 y.d.ways)).setCell ⟨sgb, 7, none⟩ (.slice sga2 y.d.es.length sgc2)).setCell ⟨sgb, 8, none⟩ (.int .i64 y.p.sets)).setCell ⟨sgb, 9, none⟩ (.int .i64 y.p.ways)).setCell ⟨sgb, 10, none⟩ (.slice sga3 y.p.es.length sgc3)).ownsRow v6.heap.size 101 6 (.slice sga1 y.i.es.length sgc1) y.i.es.length (entsC y.i.es)) := own_set HO1.out HZZ.out (by decide) gW
      have Rsg2 : Hid ((((((((((((w'.setCell ⟨sgb, 0, none⟩ (.int .i64 xc)).setCell ⟨sgb, 1, none⟩ (.int .u64 xp)).setCell ⟨sgb, 2, none⟩ (.int .i64 y.i.sets)).setCell ⟨sgb, 3, none⟩ (.int .i64 y.i.ways)).setCell ⟨sgb, 4, none⟩ (.slice sga1 y.i.es.length sgc1)).setCell ⟨sgb, 5, none⟩ (.int .i64 y.d.sets)).setCell ⟨sgb, 6, none⟩ (.int .i64 y.d.ways)).setCell ⟨sgb, 7, none⟩ (.slice sga2 y.d.es.length sgc2)).setCell ⟨sgb, 8, none⟩ (.int .i64 y.p.sets)).setCell ⟨sgb, 9, none⟩ (.int .i64 y.p.ways)).setCell ⟨sgb, 10, none⟩ (.slice sga3 y.p.es.length sgc3)).ownsRow v6.heap.size 101 6 (.slice sga2 y.d.es.length sgc2) y.d.es.length (entsC y.d.es)) := own_set HO2.out HZZ.out (by decide) gW
      have Rsg3 : Hid ((((((((((((w'.setCell ⟨sgb, 0, none⟩ (.int .i64 xc)).setCell ⟨sgb, 1, none⟩ (.int .u64 xp)).setCell ⟨sgb, 2, none⟩ (.int .i64 y.i.sets)).setCell ⟨sgb, 3, none⟩ (.int .i64 y.i.ways)).setCell ⟨sgb, 4, none⟩ (.slice sga1 y.i.es.length sgc1)).setCell ⟨sgb, 5, none⟩ (.int .i64 y.d.sets)).setCell ⟨sgb, 6, none⟩ (.int .i64 y.d.ways)).setCell ⟨sgb, 7, none⟩ (.slice sga2 y.d.es.length sgc2)).setCell ⟨sgb, 8, none⟩ (.int .i64 y.p.sets)).setCell ⟨sgb, 9, none⟩ (.int .i64 y.p.ways)).setCell ⟨sgb, 10, none⟩ (.slice sga3 y.p.es.length sgc3)).ownsRow v6.heap.size 101 6 (.slice sga3 y.p.es.length sgc3) y.p.es.length (entsC y.p.es)) := own_set HO3.out HZZ.out (by decide) gW
      have bv7 : Below v6.heap.size v6 (((((((((((w'.setCell ⟨sgb, 0, none⟩ (.int .i64 xc)).setCell ⟨sgb, 1, none⟩ (.int .u64 xp)).setCell ⟨sgb, 2, none⟩ (.int .i64 y.i.sets)).setCell ⟨sgb, 3, none⟩ (.int .i64 y.i.ways)).setCell ⟨sgb, 4, none⟩ (.slice sga1 y.i.es.length sgc1)).setCell ⟨sgb, 5, none⟩ (.int .i64 y.d.sets)).setCell ⟨sgb, 6, none⟩ (.int .i64 y.d.ways)).setCell ⟨sgb, 7, none⟩ (.slice sga2 y.d.es.length sgc2)).setCell ⟨sgb, 8, none⟩ (.int .i64 y.p.sets)).setCell ⟨sgb, 9, none⟩ (.int .i64 y.p.ways)).setCell ⟨sgb, 10, none⟩ (.slice sga3 y.p.es.length sgc3)) := hw.grown gW hw.size (fun q hq => by cases hq; omega)
      have Lsg : sgb < (((((((((((w'.setCell ⟨sgb, 0, none⟩ (.int .i64 xc)).setCell ⟨sgb, 1, none⟩ (.int .u64 xp)).setCell ⟨sgb, 2, none⟩ (.int .i64 y.i.sets)).setCell ⟨sgb, 3, none⟩ (.int .i64 y.i.ways)).setCell ⟨sgb, 4, none⟩ (.slice sga1 y.i.es.length sgc1)).setCell ⟨sgb, 5, none⟩ (.int .i64 y.d.sets)).setCell ⟨sgb, 6, none⟩ (.int .i64 y.d.ways)).setCell ⟨sgb, 7, none⟩ (.slice sga2 y.d.es.length sgc2)).setCell ⟨sgb, 8, none⟩ (.int .i64 y.p.sets)).setCell ⟨sgb, 9, none⟩ (.int .i64 y.p.ways)).setCell ⟨sgb, 10, none⟩ (.slice sga3 y.p.es.length sgc3)).heap.size := Nat.lt_of_lt_of_le lZ gW.size
      have Usg : Hid (∀ g, inRows (.slice sga1 y.i.es.length sgc1) (.slice sga2 y.d.es.length sgc2) (.slice sga3 y.p.es.length sgc3) g → v6.heap.size ≤ g ∧ g < (((((((((((w'.setCell ⟨sgb, 0, none⟩ (.int .i64 xc)).setCell ⟨sgb, 1, none⟩ (.int .u64 xp)).setCell ⟨sgb, 2, none⟩ (.int .i64 y.i.sets)).setCell ⟨sgb, 3, none⟩ (.int .i64 y.i.ways)).setCell ⟨sgb, 4, none⟩ (.slice sga1 y.i.es.length sgc1)).setCell ⟨sgb, 5, none⟩ (.int .i64 y.d.sets)).setCell ⟨sgb, 6, none⟩ (.int .i64 y.d.ways)).setCell ⟨sgb, 7, none⟩ (.slice sga2 y.d.es.length sgc2)).setCell ⟨sgb, 8, none⟩ (.int .i64 y.p.sets)).setCell ⟨sgb, 9, none⟩ (.int .i64 y.p.ways)).setCell ⟨sgb, 10, none⟩ (.slice sga3 y.p.es.length sgc3)).heap.size) := fun g h => by
        rcases h with h | h | h
        · exact own_in Rsg1.out g h
        · exact own_in Rsg2.out g h
        · exact own_in Rsg3.out g h
      generalize (((((((((((w'.setCell ⟨sgb, 0, none⟩ (.int .i64 xc)).setCell ⟨sgb, 1, none⟩ (.int .u64 xp)).setCell ⟨sgb, 2, none⟩ (.int .i64 y.i.sets)).setCell ⟨sgb, 3, none⟩ (.int .i64 y.i.ways)).setCell ⟨sgb, 4, none⟩ (.slice sga1 y.i.es.length sgc1)).setCell ⟨sgb, 5, none⟩ (.int .i64 y.d.sets)).setCell ⟨sgb, 6, none⟩ (.int .i64 y.d.ways)).setCell ⟨sgb, 7, none⟩ (.slice sga2 y.d.es.length sgc2)).setCell ⟨sgb, 8, none⟩ (.int .i64 y.p.sets)).setCell ⟨sgb, 9, none⟩ (.int .i64 y.p.ways)).setCell ⟨sgb, 10, none⟩ (.slice sga3 y.p.es.length sgc3)) = v7 at Usg Esg Rsg1 Rsg2 Rsg3 bv7 Lsg ⊢
      have Bv7 := Below.step Bv6 bv7 (Nat.le_refl _)
      have sv7 := bv7.size
      clear i0 i1 i2 i3 i4 i5 i6 i7 i8 i9 i10 f0 f1 f2 f3 f4 f5 f6 f7 f8 f9 f10 gW HZZ HO1 HO2 HO3 hw lw' lZ
      obtain ⟨ap12, ap13, ap23⟩ := o4
      replace Esw := hid_keep Esw bv7
      replace Q1 : Hid _ := own_below Q1.out bv7
      replace Q2 : Hid _ := own_below Q2.out bv7
      replace Q3 : Hid _ := own_below Q3.out bv7
      replace X6 := hid_keep X6 bv7
      replace Ox1 : Hid _ := own_below Ox1.out bv7
      replace Ox2 : Hid _ := own_below Ox2.out bv7
      replace Ox3 : Hid _ := own_below Ox3.out bv7
      have K7 : Hid (Blk 5 v7 v3.heap.size zs) := K6.out.keep bv7 (by omega)
      clear e0' e1' e2' e3' e4' e5' e6' e7' e8' e9' e10' K6 HKX HYX
      refine (eqTlbTrans_row xc xp y (.slice sga1 y.i.es.length sgc1) (.slice sga2 y.d.es.length sgc2) (.slice sga3 y.p.es.length sgc3) (.slice swa1 y.i.es.length swc1) (.slice swa2 y.d.es.length swc2) (.slice swa3 y.p.es.length swc3) v7 (rowS_own Rsg1.out) (rowS_own Rsg2.out) (rowS_own Rsg3.out) (rowS_own Q1.out) (rowS_own Q2.out) (rowS_own Q3.out) HXl.out.1 HXl.out.2.1 HXl.out.2.2).mono ?_
      rintro e v8 ⟨rfl, n8⟩
      have Bv8 := Below.step Bv7 n8 (Nat.le_refl _)
      go_wp2_with fail
      refine (HTb.out v8 Bv8).mono ?_
      rintro e v9 ⟨rfl, hbk9, n9⟩
      have Bv9 := Below.step Bv8 n9 (Nat.le_refl _)
      have n79 := Below.step n8 n9 (Nat.le_refl _)
      go_wp2_with fail
      refine (eqByteS_same (some ⟨v3.heap.size, 0, none⟩) (some ⟨v8.heap.size, 0, none⟩) len len len zs v9 (HBy.out v9 _ (K7.out.keep n79 (by omega))) (HBy.out v9 _ hbk9) hl).mono ?_
      rintro e v10 ⟨rfl, n10⟩
      have Bv10 := Below.step Bv9 n10 (Nat.le_refl _)
      have n710 := Below.step n79 n10 (Nat.le_refl _)
      have s10 := n710.size
      replace X6 := hid_keep X6 n710
      have OX : Hid (∀ u, Below v10.heap.size v10 u → RowS u (.slice (some ⟨gx1, 0, none⟩) k.i.es.length cx1) k.i.es.length (entsC k.i.es) ∧ RowS u (.slice (some ⟨gx2, 0, none⟩) k.d.es.length cx2) k.d.es.length (entsC k.d.es) ∧ RowS u (.slice (some ⟨gx3, 0, none⟩) k.p.es.length cx3) k.p.es.length (entsC k.p.es)) := fun u hu => ⟨rowS_own (own_below Ox1.out (Below.step n710 hu (Nat.le_refl _))), rowS_own (own_below Ox2.out (Below.step n710 hu (Nat.le_refl _))), rowS_own (own_below Ox3.out (Below.step n710 hu (Nat.le_refl _)))⟩
      clear n8 n9 n10 hbk9 n79
      go_wp2_with fail
      refine wp_region_chain [2, 3] 4 ?_ _ [(0, 2)] (fun c x w' => (c = 2 → KSep v10.heap.size w' x k) ∧ (c = 3 → x = .bool true)) (by kernel_rfl) (by kernel_rfl) (by kernel_rfl) rfl (by kernel_rfl) ?h15 ?r15 ?c15 ?q15
      case h15 =>
        intro w0 hw0
        have ne := lies_some w0
        have l0 := hw0.size
        have b0' := Below.step Bv10 hw0 (Nat.le_refl _)
        obtain ⟨q0, q1, q2, q3, q4, q5, q6, q7, q8⟩ := nine_cells (HCk.out w0 b0')
        obtain ⟨p0, p1, p2, p3, p4, p5, p6, p7, p8⟩ := nine_cells (hid_keep X6 hw0).out
        have lw : w.heap.size + 1 < w0.heap.size := by omega
        have lw' : v5.heap.size < w0.heap.size := by omega
        have y0 := lies_cell q0 lw; have y1 := lies_cell q1 lw; have y2 := lies_cell q2 lw; have y3 := lies_cell q3 lw; have y4 := lies_cell q4 lw; have y5 := lies_cell q5 lw; have y6 := lies_cell q6 lw; have y7 := lies_cell q7 lw; have y8 := lies_cell q8 lw
        have z0 := lies_cell p0 lw'; have z1 := lies_cell p1 lw'; have z2 := lies_cell p2 lw'; have z3 := lies_cell p3 lw'; have z4 := lies_cell p4 lw'; have z5 := lies_cell p5 lw'; have z6 := lies_cell p6 lw'; have z7 := lies_cell p7 lw'; have z8 := lies_cell p8 lw'
        clear q0 q1 q2 q3 q4 q5 q6 q7 q8 p0 p1 p2 p3 p4 p5 p6 p7 p8
        simp only [cutL, List.take_succ_cons, List.take_zero, List.drop_zero, List.append_nil]
        repeat (go_big_quiet_step (fail))
        refine wpQuiet_nil ?_
        exact rfl
      case r15 =>
        intro c hc x w1 w2 hR hb
        exact ⟨fun h => (hR.1 h).keep hb, hR.2⟩
      case c15 =>
        intro c hc o ho p w' hw hwt
        simp only [List.mem_cons, List.not_mem_nil, or_false] at hc
        rcases hc with rfl | rfl
        · have ho' := Option.some.inj ho
          subst ho'
          refine .inr ⟨11, #[.agg #[.int .i64 k.i.sets, .int .i64 k.i.ways, .slice a1 k.i.es.length c1, .int .i64 k.d.sets, .int .i64 k.d.ways, .slice a2 k.d.es.length c2, .int .i64 k.p.sets, .int .i64 k.p.ways, .slice a3 k.p.es.length c3]], by kernel_rfl, (HTk.out w' (Below.step Bv10 hw (Nat.le_refl _))).mono ?_⟩
          rintro e w2 ⟨⟨x, rfl, hks⟩, nb⟩
          obtain ⟨g1, d1, g2, d2, g3, d3, e0, o1, o2, o3, o4⟩ := hks
          exact ⟨_, rfl, ⟨fun _ => ⟨g1, d1, g2, d2, g3, d3, e0, own_low o1 hw.size, own_low o2 hw.size, own_low o3 hw.size, o4⟩, fun h => by omega⟩, nb⟩
        · have ho' := Option.some.inj ho
          subst ho'
          obtain ⟨g1, d1, g2, d2, g3, d3, e0, o1, o2, o3, o4⟩ := (hwt 2 (by simp) (by kernel_rfl)).1 rfl
          obtain ⟨x1, x2, x3⟩ := OX.out w' hw
          refine .inr ⟨15, #[.agg #[.int .i64 k.i.sets, .int .i64 k.i.ways, .slice (some ⟨gx1, 0, none⟩) k.i.es.length cx1, .int .i64 k.d.sets, .int .i64 k.d.ways, .slice (some ⟨gx2, 0, none⟩) k.d.es.length cx2, .int .i64 k.p.sets, .int .i64 k.p.ways, .slice (some ⟨gx3, 0, none⟩) k.p.es.length cx3], p 2], by kernel_rfl, ?_⟩
          rw [e0]
          refine (eqCaches_row k _ _ _ _ _ _ w' x1 x2 x3 (rowS_own o1) (rowS_own o2) (rowS_own o3) li ld lp).mono ?_
          rintro e w2 ⟨rfl, nb⟩
          exact ⟨_, rfl, ⟨fun h => by omega, fun _ => rfl⟩, nb⟩
      case q15 =>
        intro p v11 n11 hall
        have e3' := (hall 3 (by simp)).2 rfl
        clear hall
        simp only [wput, dstOf, List.getElem?_toArray, List.getElem?_cons_succ, List.getElem?_cons_zero, Option.bind_some]
        generalize p 2 = z2'
        generalize p 3 = z3' at e3'
        subst e3'
        clear p
        go_wp2_with fail
        have Bv11 := Below.step Bv10 n11 (Nat.le_refl _)
        have n711 := Below.step n710 n11 (Nat.le_refl _)
        have s11 := n711.size
        refine (markByteS_any v3.heap.size len len zs 1 v11 (K7.out.keep n711 (by omega)) HZl.out hl (by omega) (by omega)).mono ?_
        rintro e v12 ⟨rfl, _, g12⟩
        have s12 := g12.size
        have Bv12 := Bv11.grown g12 Bv11.size (fun q hq => by cases hq; omega)
        have X12 : Hid _ := heap_gb (hid_keep X6 n11).out g12 (by omega)
        have P1 : Hid _ := own_gbn (own_below Ox1.out n711) g12 (by omega)
        have P2 : Hid _ := own_gbn (own_below Ox2.out n711) g12 (by omega)
        have P3 : Hid _ := own_gbn (own_below Ox3.out n711) g12 (by omega)
        have KB := K7.out.keep n711 (show v3.heap.size < v7.heap.size by omega)
        have Esw12 : Hid _ := heap_gb (hid_keep Esw n711).out g12 (by omega)
        have Esg12 : Hid _ := heap_gb (hid_keep Esg n711).out g12 (by omega)
        have W1 : Hid _ := own_set (own_below Q1.out n711) KB (by decide) g12
        have W2 : Hid _ := own_set (own_below Q2.out n711) KB (by decide) g12
        have W3 : Hid _ := own_set (own_below Q3.out n711) KB (by decide) g12
        have V1 : Hid _ := own_set (own_below Rsg1.out n711) KB (by decide) g12
        have V2 : Hid _ := own_set (own_below Rsg2.out n711) KB (by decide) g12
        have V3 : Hid _ := own_set (own_below Rsg3.out n711) KB (by decide) g12
        clear KB Esw Esg Q1 Q2 Q3 Rsg1 Rsg2 Rsg3 K7 X6 Ox1 Ox2 Ox3 OX
        obtain ⟨b0, b1, b2, b3, b4, b5, b6, b7, b8⟩ := nine_cells X12.out
        have lk : v5.heap.size < v12.heap.size := by omega
        go_wp2_with fail
        refine (markCaches_own k v4.heap.size _ _ _ _ _ _ (1 + len) v12 P1.out P2.out P3.out (apart_of dx1) (apart_of dx2) (apart_of dx3) li ld lp (by omega) (by omega)).mono ?_
        rintro e v13 ⟨rfl, _, hm⟩
        clear b0 b1 b2 b3 b4 b5 b6 b7 b8 lk
        have s13 := hm.size
        have Bv13 := hm.below Bv12 Bv12.size (fun g hg => by
          apply Classical.byContradiction
          intro hn
          exact not_inX (by omega) (by omega) (by omega) hg)
        have Esw13 : Hid _ := hm.heap Esw12.out (not_inX (by omega) (by omega) (by omega))
        have Esg13 : Hid _ := hm.heap Esg12.out (not_inX (by omega) (by omega) (by omega))
        have nW : ∀ g, inRows (.slice swa1 y.i.es.length swc1) (.slice swa2 y.d.es.length swc2) (.slice swa3 y.p.es.length swc3) g → ¬ inRows (.slice (some ⟨gx1, 0, none⟩) k.i.es.length cx1) (.slice (some ⟨gx2, 0, none⟩) k.d.es.length cx2) (.slice (some ⟨gx3, 0, none⟩) k.p.es.length cx3) g := fun g hg => by
          have := Usw.out g hg
          exact not_inX (by omega) (by omega) (by omega)
        have nV : ∀ g, inRows (.slice sga1 y.i.es.length sgc1) (.slice sga2 y.d.es.length sgc2) (.slice sga3 y.p.es.length sgc3) g → ¬ inRows (.slice (some ⟨gx1, 0, none⟩) k.i.es.length cx1) (.slice (some ⟨gx2, 0, none⟩) k.d.es.length cx2) (.slice (some ⟨gx3, 0, none⟩) k.p.es.length cx3) g := fun g hg => by
          have := Usg.out g hg
          exact not_inX (by omega) (by omega) (by omega)
        replace W1 : Hid _ := hm.own W1.out (fun g hg => nW g (.inl hg))
        replace W2 : Hid _ := hm.own W2.out (fun g hg => nW g (.inr (.inl hg)))
        replace W3 : Hid _ := hm.own W3.out (fun g hg => nW g (.inr (.inr hg)))
        replace V1 : Hid _ := hm.own V1.out (fun g hg => nV g (.inl hg))
        replace V2 : Hid _ := hm.own V2.out (fun g hg => nV g (.inr (.inl hg)))
        replace V3 : Hid _ := hm.own V3.out (fun g hg => nV g (.inr (.inr hg)))
        clear nW nV hm P1 P2 P3 X12 Esw12 Esg12
        have dk : decide (1 + (len : Int) + k.i.es.length * 6 + k.d.es.length * 6 + k.p.es.length * 6 < 0) = false := by simp; omega
        obtain ⟨b0, b1, b2, b3, b4, b5, b6, b7, b8, b9, b10⟩ := eleven_cells Esg13.out
        obtain ⟨e0', e1', e2', e3', e4', e5', e6', e7', e8', e9', e10'⟩ := eleven_cells Esw13.out
        have lg : sgb < v13.heap.size := (Array.getElem?_eq_some_iff.1 Esg13.out).1
        have lw : swb < v13.heap.size := (Array.getElem?_eq_some_iff.1 Esw13.out).1
        go_wp2_with fail
        refine (eqTlbTrans_row xc xp y (.slice sga1 y.i.es.length sgc1) (.slice sga2 y.d.es.length sgc2) (.slice sga3 y.p.es.length sgc3) (.slice swa1 y.i.es.length swc1) (.slice swa2 y.d.es.length swc2) (.slice swa3 y.p.es.length swc3) v13 (rowS_own V1.out) (rowS_own V2.out) (rowS_own V3.out) (rowS_own W1.out) (rowS_own W2.out) (rowS_own W3.out) HXl.out.1 HXl.out.2.1 HXl.out.2.2).mono ?_
        rintro e v14 ⟨rfl, n14⟩
        have Bv14 := Below.step Bv13 n14 (Nat.le_refl _)
        have Esw14 := hid_keep Esw13 n14
        have Esg14 := hid_keep Esg13 n14
        replace W1 : Hid _ := own_below W1.out n14
        replace W2 : Hid _ := own_below W2.out n14
        replace W3 : Hid _ := own_below W3.out n14
        replace V1 : Hid _ := own_below V1.out n14
        replace V2 : Hid _ := own_below V2.out n14
        replace V3 : Hid _ := own_below V3.out n14
        have s14 := n14.size
        clear b0 b1 b2 b3 b4 b5 b6 b7 b8 b9 b10 e0' e1' e2' e3' e4' e5' e6' e7' e8' e9' e10' lg lw n14 Esw13 Esg13
        obtain ⟨b0, b1, b2, b3, b4, b5, b6, b7, b8, b9, b10⟩ := eleven_cells Esg14.out
        have lg : sgb < v14.heap.size := (Array.getElem?_eq_some_iff.1 Esg14.out).1
        go_wp2_with fail
        refine (markTlbTrans_own xc xp y v6.heap.size (.slice sga1 y.i.es.length sgc1) (.slice sga2 y.d.es.length sgc2) (.slice sga3 y.p.es.length sgc3) _ _ _ 1 v14 V1.out V2.out V3.out ap12 ap13 ap23 HXl.out.1 HXl.out.2.1 HXl.out.2.2 (by omega) (by omega)).mono ?_
        rintro e v15 ⟨rfl, hmk, hm⟩
        have HMk : Hid _ := hmk
        have s15 := hm.size
        have Esg15 : Hid _ := hm.heap Esg14.out (by
          rintro (h | h | h)
          · exact own_ne V1.out Esg14.out (by decide) h
          · exact own_ne V2.out Esg14.out (by decide) h
          · exact own_ne V3.out Esg14.out (by decide) h)
        have Esw15 : Hid _ := hm.heap Esw14.out (by
          rintro (h | h | h)
          · exact own_ne V1.out Esw14.out (by decide) h
          · exact own_ne V2.out Esw14.out (by decide) h
          · exact own_ne V3.out Esw14.out (by decide) h)
        have nW : ∀ g, inRows (.slice swa1 y.i.es.length swc1) (.slice swa2 y.d.es.length swc2) (.slice swa3 y.p.es.length swc3) g → ¬ inRows (.slice sga1 y.i.es.length sgc1) (.slice sga2 y.d.es.length sgc2) (.slice sga3 y.p.es.length sgc3) g := fun g hg hg2 => by
          have h1 := Usw.out g hg
          have h2 := Usg.out g hg2
          omega
        replace W1 : Hid _ := hm.own W1.out (fun g hg => nW g (.inl hg))
        replace W2 : Hid _ := hm.own W2.out (fun g hg => nW g (.inr (.inl hg)))
        replace W3 : Hid _ := hm.own W3.out (fun g hg => nW g (.inr (.inr hg)))
        have Bv15 := hm.below Bv14 Bv14.size (fun g hg => by have := Usg.out g hg; omega)
        clear b0 b1 b2 b3 b4 b5 b6 b7 b8 b9 b10 lg hmk hm nW V1 V2 V3 Esw14 Esg14
        obtain ⟨b0, b1, b2, b3, b4, b5, b6, b7, b8, b9, b10⟩ := eleven_cells Esg15.out
        have lg : sgb < v15.heap.size := (Array.getElem?_eq_some_iff.1 Esg15.out).1
        go_wp2_with fail
        refine (heldTlbTrans_own xc xp y v6.heap.size (.slice sga1 y.i.es.length sgc1) (.slice sga2 y.d.es.length sgc2) (.slice sga3 y.p.es.length sgc3) 1 v15 HMk.out HXl.out.1 HXl.out.2.1 HXl.out.2.2 (by omega) (by omega)).mono ?_
        rintro e v16 ⟨rfl, n16⟩
        have Bv16 := Below.step Bv15 n16 (Nat.le_refl _)
        have Esw16 := hid_keep Esw15 n16
        replace W1 : Hid _ := own_below W1.out n16
        replace W2 : Hid _ := own_below W2.out n16
        replace W3 : Hid _ := own_below W3.out n16
        have s16 := n16.size
        have HXl2 := HXl.out
        have dq : decide (1 + (y.i.es.length : Int) * 6 + y.d.es.length * 6 + y.p.es.length * 6 < 0) = false := by simp; omega
        clear b0 b1 b2 b3 b4 b5 b6 b7 b8 b9 b10 lg n16 Esw15 Esg15 HMk
        go_wp2_with fail
        refine wp_region_chain [1, 5, 9, 10] 11 ?_ _ [(0, 1), (2, 3), (6, 3)] (fun c x w' => (c = 1 → ∃ g, x = .slice (some ⟨g, 0, none⟩) len len ∧ Byt w' (some ⟨g, 0, none⟩) len zs) ∧ (c = 5 → KSep v16.heap.size w' x k) ∧ (c = 9 → TransSep v16.heap.size w' x ((xc, xp), y)) ∧ (c = 10 → ∃ pb, x = .pointer (some ⟨pb, 0, none⟩) ∧ v16.heap.size ≤ pb ∧ w'.heap[pb]? = some (.cells #[.int .i64 0, .int .u64 0, .int .i64 0, .int .i64 0, .slice none 0 0, .int .i64 0, .int .i64 0, .slice none 0 0, .int .i64 0, .int .i64 0, .slice none 0 0] 38 (0, 0)))) (by kernel_rfl) (by kernel_rfl) (by kernel_rfl) rfl (by kernel_rfl) ?h30 ?r30 ?c30 ?q30
        case h30 =>
          intro w0 hw0
          have ne := lies_some w0
          have l0 := hw0.size
          have b0 := Below.step Bv16 hw0 (Nat.le_refl _)
          obtain ⟨⟨q0, q1, q2, q3⟩, _⟩ := four_cells (HCt.out w0 b0)
          obtain ⟨p0, p1, p2, p3, p4, p5, p6, p7, p8⟩ := nine_cells (HCk.out w0 b0)
          have lw : w.heap.size < w0.heap.size := by omega
          have lw' : w.heap.size + 1 < w0.heap.size := by omega
          have y0 := lies_cell q0 lw; have y1 := lies_cell q1 lw; have y2 := lies_cell q2 lw; have y3 := lies_cell q3 lw
          have z0 := lies_cell p0 lw'; have z1 := lies_cell p1 lw'; have z2 := lies_cell p2 lw'; have z3 := lies_cell p3 lw'; have z4 := lies_cell p4 lw'; have z5 := lies_cell p5 lw'; have z6 := lies_cell p6 lw'; have z7 := lies_cell p7 lw'; have z8 := lies_cell p8 lw'
          clear q0 q1 q2 q3 p0 p1 p2 p3 p4 p5 p6 p7 p8
          simp only [cutL, List.take_succ_cons, List.take_zero, List.drop_succ_cons, List.drop_zero, List.cons_append, List.nil_append, List.append_nil]
          repeat (go_big_quiet_step ((go_at_call 10; exact lies_quiet _ (HTx.out _))))
          refine wpQuiet_nil ?_
          exact rfl
        case r30 =>
          intro c hc x w1 w2 hR hb
          refine ⟨fun h => ?_, fun h => (hR.2.1 h).keep hb, fun h => (hR.2.2.1 h).keep hb, fun h => ?_⟩
          · obtain ⟨g, e, hy⟩ := hR.1 h
            exact ⟨g, e, hy.keep hb⟩
          · obtain ⟨pb, e, h1, h2⟩ := hR.2.2.2 h
            exact ⟨pb, e, h1, heap_keep h2 hb (Array.getElem?_eq_some_iff.1 h2).1⟩
        case c30 =>
          intro c hc o ho p w' hw hwt
          have b0 := Below.step Bv16 hw (Nat.le_refl _)
          simp only [List.mem_cons, List.not_mem_nil, or_false] at hc
          rcases hc with rfl | rfl | rfl | rfl
          · have ho' := Option.some.inj ho
            subst ho'
            refine .inr ⟨9, #[.slice a0 len cap], by kernel_rfl, (HTb.out w' b0).mono ?_⟩
            rintro e w2 ⟨rfl, hbk, nb⟩
            refine ⟨_, rfl, ⟨fun _ => ⟨_, rfl, HBy.out _ _ hbk⟩, fun h => by omega, fun h => by omega, fun h => by omega⟩, nb⟩
          · have ho' := Option.some.inj ho
            subst ho'
            refine .inr ⟨11, #[.agg #[.int .i64 k.i.sets, .int .i64 k.i.ways, .slice a1 k.i.es.length c1, .int .i64 k.d.sets, .int .i64 k.d.ways, .slice a2 k.d.es.length c2, .int .i64 k.p.sets, .int .i64 k.p.ways, .slice a3 k.p.es.length c3]], by kernel_rfl, (HTk.out w' b0).mono ?_⟩
            rintro e w2 ⟨⟨x, rfl, hks⟩, nb⟩
            obtain ⟨g1, d1, g2, d2, g3, d3, e0, o1, o2, o3, o4⟩ := hks
            exact ⟨_, rfl, ⟨fun h => by omega, fun _ => ⟨g1, d1, g2, d2, g3, d3, e0, own_low o1 hw.size, own_low o2 hw.size, own_low o3 hw.size, o4⟩, fun h => by omega, fun h => by omega⟩, nb⟩
          · have ho' := Option.some.inj ho
            subst ho'
            obtain ⟨g, e1, hy⟩ := (hwt 1 (by simp) (by kernel_rfl)).1 rfl
            have hks := (hwt 5 (by simp) (by kernel_rfl)).2.1 rfl
            refine .inr ⟨12, #[p 1, ctxV mode sum mxr satp, p 5, .int .i64 kind, .int .u64 va, .int .i64 pick], by kernel_rfl, ?_⟩
            rw [e1]
            refine (HIm.out w' (p 5) (some ⟨g, 0, none⟩) (hks.at HK1.out HK2.out HK3.out) hy).mono ?_
            rintro e w2 ⟨⟨x, rfl, ht⟩, nb⟩
            obtain ⟨s1, s2, s3, e0, o1, o2, o3, o4⟩ := ht
            exact ⟨_, rfl, ⟨fun h => by omega, fun h => by omega, fun _ => ⟨s1, s2, s3, e0, own_low o1 hw.size, own_low o2 hw.size, own_low o3 hw.size, o4⟩, fun h => by omega⟩, nb⟩
          · have ho' := Option.some.inj ho
            subst ho'
            exact .inl ⟨.pointer (some ⟨w'.heap.size, 0, none⟩), w'.alloc (Obj.cells #[.int .i64 0, .int .u64 0, .int .i64 0, .int .i64 0, .slice none 0 0, .int .i64 0, .int .i64 0, .slice none 0 0, .int .i64 0, .int .i64 0, .slice none 0 0] 38), by kernel_rfl, ⟨fun h => by omega, fun h => by omega, fun h => by omega, fun _ => ⟨_, rfl, hw.size, heap_alloc_new w' _⟩⟩, (Below.refl _ _).alloc (Nat.le_refl _) _⟩
        case q30 =>
          intro p w' hw hall
          obtain ⟨sh1, sh2, sh3, e9, o1, o2, o3, o4⟩ := (hall 9 (by simp)).2.2.1 rfl
          obtain ⟨shb, e10, hpb, hZ⟩ := (hall 10 (by simp)).2.2.2 rfl
          clear hall
          simp only [wput, dstOf, List.getElem?_toArray, List.getElem?_cons_succ, List.getElem?_cons_zero, Option.bind_some]
          generalize p 1 = z1
          generalize p 5 = z5
          generalize p 9 = z9 at e9
          generalize p 10 = z10 at e10
          subst e9 e10
          clear p
          have lZ : shb < w'.heap.size := (Array.getElem?_eq_some_iff.1 hZ).1
          obtain ⟨sha1, shc1, rfl, _⟩ := rowS_own o1
          obtain ⟨sha2, shc2, rfl, _⟩ := rowS_own o2
          obtain ⟨sha3, shc3, rfl, _⟩ := rowS_own o3
          simp only at o1 o2 o3
          have HZZ : Hid _ := hZ
          have HO1 : Hid _ := o1
          have HO2 : Hid _ := o2
          have HO3 : Hid _ := o3
          have lw' := hw.size
          obtain ⟨i0, i1, i2, i3, i4, i5, i6, i7, i8, i9, i10⟩ := eleven_cells hZ
          have ff := eleven_free hZ
          have f0 := ff 0; have f1 := ff 1; have f2 := ff 2; have f3 := ff 3; have f4 := ff 4; have f5 := ff 5; have f6 := ff 6; have f7 := ff 7; have f8 := ff 8; have f9 := ff 9; have f10 := ff 10
          clear ff hZ o1 o2 o3
          obtain ⟨e0', e1', e2', e3', e4', e5', e6', e7', e8', e9', e10'⟩ := eleven_cells (hid_keep Esw16 hw).out
          have lsw : swb < w'.heap.size := Nat.lt_of_lt_of_le (Array.getElem?_eq_some_iff.1 Esw16.out).1 hw.size
          have nsg2 : shb ≠ swb := by have := (Array.getElem?_eq_some_iff.1 Esw16.out).1; omega
          have nsg3 : swb ≠ shb := by have := (Array.getElem?_eq_some_iff.1 Esw16.out).1; omega
          go_wp2_with fail
          have gW := gb11 w' shb (.int .i64 xc) (.int .u64 xp) (.int .i64 y.i.sets) (.int .i64 y.i.ways) (.slice sha1 y.i.es.length shc1) (.int .i64 y.d.sets) (.int .i64 y.d.ways) (.slice sha2 y.d.es.length shc2) (.int .i64 y.p.sets) (.int .i64 y.p.ways) (.slice sha3 y.p.es.length shc3)
          have Esh : Hid ((((((((((((w'.setCell ⟨shb, 0, none⟩ (.int .i64 xc)).setCell ⟨shb, 1, none⟩ (.int .u64 xp)).setCell ⟨shb, 2, none⟩ (.int .i64 y.i.sets)).setCell ⟨shb, 3, none⟩ (.int .i64 y.i.ways)).setCell ⟨shb, 4, none⟩ (.slice sha1 y.i.es.length shc1)).setCell ⟨shb, 5, none⟩ (.int .i64 y.d.sets)).setCell ⟨shb, 6, none⟩ (.int .i64 y.d.ways)).setCell ⟨shb, 7, none⟩ (.slice sha2 y.d.es.length shc2)).setCell ⟨shb, 8, none⟩ (.int .i64 y.p.sets)).setCell ⟨shb, 9, none⟩ (.int .i64 y.p.ways)).setCell ⟨shb, 10, none⟩ (.slice sha3 y.p.es.length shc3)).heap[shb]? = some (.cells #[.int .i64 xc, .int .u64 xp, .int .i64 y.i.sets, .int .i64 y.i.ways, .slice sha1 y.i.es.length shc1, .int .i64 y.d.sets, .int .i64 y.d.ways, .slice sha2 y.d.es.length shc2, .int .i64 y.p.sets, .int .i64 y.p.ways, .slice sha3 y.p.es.length shc3] 38 (0, 0))) := eleven_putAll HZZ.out
          have Rsh1 : Hid ((((((((((((w'.setCell ⟨shb, 0, none⟩ (.int .i64 xc)).setCell ⟨shb, 1, none⟩ (.int .u64 xp)).setCell ⟨shb, 2, none⟩ (.int .i64 y.i.sets)).setCell ⟨shb, 3, none⟩ (.int .i64 y.i.ways)).setCell ⟨shb, 4, none⟩ (.slice sha1 y.i.es.length shc1)).setCell ⟨shb, 5, none⟩ (.int .i64 y.d.sets)).setCell ⟨shb, 6, none⟩ (.int .i64 y.d.ways)).setCell ⟨shb, 7, none⟩ (.slice sha2 y.d.es.length shc2)).setCell ⟨shb, 8, none⟩ (.int .i64 y.p.sets)).setCell ⟨shb, 9, none⟩ (.int .i64 y.p.ways)).setCell ⟨shb, 10, none⟩ (.slice sha3 y.p.es.length shc3)).ownsRow v16.heap.size 101 6 (.slice sha1 y.i.es.length shc1) y.i.es.length (entsC y.i.es)) := own_set HO1.out HZZ.out (by decide) gW
          have Rsh2 : Hid ((((((((((((w'.setCell ⟨shb, 0, none⟩ (.int .i64 xc)).setCell ⟨shb, 1, none⟩ (.int .u64 xp)).setCell ⟨shb, 2, none⟩ (.int .i64 y.i.sets)).setCell ⟨shb, 3, none⟩ (.int .i64 y.i.ways)).setCell ⟨shb, 4, none⟩ (.slice sha1 y.i.es.length shc1)).setCell ⟨shb, 5, none⟩ (.int .i64 y.d.sets)).setCell ⟨shb, 6, none⟩ (.int .i64 y.d.ways)).setCell ⟨shb, 7, none⟩ (.slice sha2 y.d.es.length shc2)).setCell ⟨shb, 8, none⟩ (.int .i64 y.p.sets)).setCell ⟨shb, 9, none⟩ (.int .i64 y.p.ways)).setCell ⟨shb, 10, none⟩ (.slice sha3 y.p.es.length shc3)).ownsRow v16.heap.size 101 6 (.slice sha2 y.d.es.length shc2) y.d.es.length (entsC y.d.es)) := own_set HO2.out HZZ.out (by decide) gW
          have Rsh3 : Hid ((((((((((((w'.setCell ⟨shb, 0, none⟩ (.int .i64 xc)).setCell ⟨shb, 1, none⟩ (.int .u64 xp)).setCell ⟨shb, 2, none⟩ (.int .i64 y.i.sets)).setCell ⟨shb, 3, none⟩ (.int .i64 y.i.ways)).setCell ⟨shb, 4, none⟩ (.slice sha1 y.i.es.length shc1)).setCell ⟨shb, 5, none⟩ (.int .i64 y.d.sets)).setCell ⟨shb, 6, none⟩ (.int .i64 y.d.ways)).setCell ⟨shb, 7, none⟩ (.slice sha2 y.d.es.length shc2)).setCell ⟨shb, 8, none⟩ (.int .i64 y.p.sets)).setCell ⟨shb, 9, none⟩ (.int .i64 y.p.ways)).setCell ⟨shb, 10, none⟩ (.slice sha3 y.p.es.length shc3)).ownsRow v16.heap.size 101 6 (.slice sha3 y.p.es.length shc3) y.p.es.length (entsC y.p.es)) := own_set HO3.out HZZ.out (by decide) gW
          have bv17 : Below v16.heap.size v16 (((((((((((w'.setCell ⟨shb, 0, none⟩ (.int .i64 xc)).setCell ⟨shb, 1, none⟩ (.int .u64 xp)).setCell ⟨shb, 2, none⟩ (.int .i64 y.i.sets)).setCell ⟨shb, 3, none⟩ (.int .i64 y.i.ways)).setCell ⟨shb, 4, none⟩ (.slice sha1 y.i.es.length shc1)).setCell ⟨shb, 5, none⟩ (.int .i64 y.d.sets)).setCell ⟨shb, 6, none⟩ (.int .i64 y.d.ways)).setCell ⟨shb, 7, none⟩ (.slice sha2 y.d.es.length shc2)).setCell ⟨shb, 8, none⟩ (.int .i64 y.p.sets)).setCell ⟨shb, 9, none⟩ (.int .i64 y.p.ways)).setCell ⟨shb, 10, none⟩ (.slice sha3 y.p.es.length shc3)) := hw.grown gW hw.size (fun q hq => by cases hq; omega)
          have Lsh : shb < (((((((((((w'.setCell ⟨shb, 0, none⟩ (.int .i64 xc)).setCell ⟨shb, 1, none⟩ (.int .u64 xp)).setCell ⟨shb, 2, none⟩ (.int .i64 y.i.sets)).setCell ⟨shb, 3, none⟩ (.int .i64 y.i.ways)).setCell ⟨shb, 4, none⟩ (.slice sha1 y.i.es.length shc1)).setCell ⟨shb, 5, none⟩ (.int .i64 y.d.sets)).setCell ⟨shb, 6, none⟩ (.int .i64 y.d.ways)).setCell ⟨shb, 7, none⟩ (.slice sha2 y.d.es.length shc2)).setCell ⟨shb, 8, none⟩ (.int .i64 y.p.sets)).setCell ⟨shb, 9, none⟩ (.int .i64 y.p.ways)).setCell ⟨shb, 10, none⟩ (.slice sha3 y.p.es.length shc3)).heap.size := Nat.lt_of_lt_of_le lZ gW.size
          have Ush : Hid (∀ g, inRows (.slice sha1 y.i.es.length shc1) (.slice sha2 y.d.es.length shc2) (.slice sha3 y.p.es.length shc3) g → v16.heap.size ≤ g ∧ g < (((((((((((w'.setCell ⟨shb, 0, none⟩ (.int .i64 xc)).setCell ⟨shb, 1, none⟩ (.int .u64 xp)).setCell ⟨shb, 2, none⟩ (.int .i64 y.i.sets)).setCell ⟨shb, 3, none⟩ (.int .i64 y.i.ways)).setCell ⟨shb, 4, none⟩ (.slice sha1 y.i.es.length shc1)).setCell ⟨shb, 5, none⟩ (.int .i64 y.d.sets)).setCell ⟨shb, 6, none⟩ (.int .i64 y.d.ways)).setCell ⟨shb, 7, none⟩ (.slice sha2 y.d.es.length shc2)).setCell ⟨shb, 8, none⟩ (.int .i64 y.p.sets)).setCell ⟨shb, 9, none⟩ (.int .i64 y.p.ways)).setCell ⟨shb, 10, none⟩ (.slice sha3 y.p.es.length shc3)).heap.size) := fun g h => by
            rcases h with h | h | h
            · exact own_in Rsh1.out g h
            · exact own_in Rsh2.out g h
            · exact own_in Rsh3.out g h
          generalize (((((((((((w'.setCell ⟨shb, 0, none⟩ (.int .i64 xc)).setCell ⟨shb, 1, none⟩ (.int .u64 xp)).setCell ⟨shb, 2, none⟩ (.int .i64 y.i.sets)).setCell ⟨shb, 3, none⟩ (.int .i64 y.i.ways)).setCell ⟨shb, 4, none⟩ (.slice sha1 y.i.es.length shc1)).setCell ⟨shb, 5, none⟩ (.int .i64 y.d.sets)).setCell ⟨shb, 6, none⟩ (.int .i64 y.d.ways)).setCell ⟨shb, 7, none⟩ (.slice sha2 y.d.es.length shc2)).setCell ⟨shb, 8, none⟩ (.int .i64 y.p.sets)).setCell ⟨shb, 9, none⟩ (.int .i64 y.p.ways)).setCell ⟨shb, 10, none⟩ (.slice sha3 y.p.es.length shc3)) = v17 at Ush Esh Rsh1 Rsh2 Rsh3 bv17 Lsh ⊢
          have Bv17 := Below.step Bv16 bv17 (Nat.le_refl _)
          have sv17 := bv17.size
          clear i0 i1 i2 i3 i4 i5 i6 i7 i8 i9 i10 f0 f1 f2 f3 f4 f5 f6 f7 f8 f9 f10 gW HZZ HO1 HO2 HO3 hw lw' lZ
          refine (eqTlbTrans_row xc xp y (.slice sha1 y.i.es.length shc1) (.slice sha2 y.d.es.length shc2) (.slice sha3 y.p.es.length shc3) (.slice swa1 y.i.es.length swc1) (.slice swa2 y.d.es.length swc2) (.slice swa3 y.p.es.length swc3) v17 (rowS_own Rsh1.out) (rowS_own Rsh2.out) (rowS_own Rsh3.out) (rowS_own (own_below W1.out bv17)) (rowS_own (own_below W2.out bv17)) (rowS_own (own_below W3.out bv17)) HXl.out.1 HXl.out.2.1 HXl.out.2.2).mono ?_
          rintro e v18 ⟨rfl, n18⟩
          have Bv18 := Below.step n1 (Below.step Bv17 n18 (Nat.le_refl _)) (Nat.le_refl _)
          go_wp2_with fail
          go_ret
          exact ⟨rfl, Bv18⟩

end Go.Proofs.YthekickjjaleaacGreat
