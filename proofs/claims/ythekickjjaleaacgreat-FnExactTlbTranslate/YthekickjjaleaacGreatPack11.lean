import Derived.Test.YthekickjjaleaacGreatPack10
import Derived.Test.YthekickjjaleaacGreatPack04
import Derived.Test.YthekickjjaleaacGreatPack03
import Derived.Test.YthekickjjaleaacGreatPack08
/- The specification's l4GoodCaches, l4Entry, l4Caches. -/
namespace Go.Proofs.YthekickjjaleaacGreat
open Go.RowKit
set_option linter.unusedVariables false
attribute [local go_sem ↓] Go.wp_at_zero Go.wp_at_succ

theorem nine_cells {v : World} {p : Nat} {T : TypeId} {a b c d e f g h i : Value} (hh : v.heap[p]? = some (.cells #[a, b, c, d, e, f, g, h, i] T (0, 0))) :
    v.cell? ⟨p, 0, none⟩ = some a ∧ v.cell? ⟨p, 1, none⟩ = some b ∧ v.cell? ⟨p, 2, none⟩ = some c ∧ v.cell? ⟨p, 3, none⟩ = some d ∧ v.cell? ⟨p, 4, none⟩ = some e ∧ v.cell? ⟨p, 5, none⟩ = some f ∧ v.cell? ⟨p, 6, none⟩ = some g ∧ v.cell? ⟨p, 7, none⟩ = some h ∧ v.cell? ⟨p, 8, none⟩ = some i := by
  simp [World.cell?, hh]

theorem bel6 {B : Nat} {a w : World} {g : Nat} (h : Below B a w) (hg : B ≤ g) (x y z u v t : Value) : Below B a ((((((w.setCell ⟨g, 0, none⟩ x).setCell ⟨g, 1, none⟩ y).setCell ⟨g, 2, none⟩ z).setCell ⟨g, 3, none⟩ u).setCell ⟨g, 4, none⟩ v).setCell ⟨g, 5, none⟩ t) :=
  (((bel3 h hg x y z).setCell (p := ⟨g, 3, none⟩) hg u).setCell (p := ⟨g, 4, none⟩) hg v).setCell (p := ⟨g, 5, none⟩) hg t

theorem bel9 {B : Nat} {a w : World} {g : Nat} (h : Below B a w) (hg : B ≤ g) (x y z u v t p q r : Value) : Below B a (((((((((w.setCell ⟨g, 0, none⟩ x).setCell ⟨g, 1, none⟩ y).setCell ⟨g, 2, none⟩ z).setCell ⟨g, 3, none⟩ u).setCell ⟨g, 4, none⟩ v).setCell ⟨g, 5, none⟩ t).setCell ⟨g, 6, none⟩ p).setCell ⟨g, 7, none⟩ q).setCell ⟨g, 8, none⟩ r) :=
  (((bel6 h hg x y z u v t).setCell (p := ⟨g, 6, none⟩) hg p).setCell (p := ⟨g, 7, none⟩) hg q).setCell (p := ⟨g, 8, none⟩) hg r

theorem gb9 (w : World) (g : Nat) (x y z u v t p q r : Value) : w.grownBy (((((((((w.setCell ⟨g, 0, none⟩ x).setCell ⟨g, 1, none⟩ y).setCell ⟨g, 2, none⟩ z).setCell ⟨g, 3, none⟩ u).setCell ⟨g, 4, none⟩ v).setCell ⟨g, 5, none⟩ t).setCell ⟨g, 6, none⟩ p).setCell ⟨g, 7, none⟩ q).setCell ⟨g, 8, none⟩ r) (some g) :=
  gb_set (gb_set (gb_set (gb_set (gb_set (gb_set (gb_set (gb_set (gb_set (gb_refl w (some g)) 0 x) 1 y) 2 z) 3 u) 4 v) 5 t) 6 p) 7 q) 8 r

theorem nine_free {v : World} {p : Nat} {T : TypeId} {cs : Array Value} (hh : v.heap[p]? = some (.cells cs T (0, 0))) (i : Nat) : v.frozen? ⟨p, i, none⟩ = false := by
  simp [World.frozen?, hh]

/-- Three caches as a value in memory. -/
def KAt (w : World) (v : Value) (k : KM) : Prop :=
  ∃ a1 c1 a2 c2 a3 c3, v = .agg #[.int .i64 k.i.sets, .int .i64 k.i.ways, .slice a1 k.i.es.length c1, .int .i64 k.d.sets, .int .i64 k.d.ways, .slice a2 k.d.es.length c2, .int .i64 k.p.sets, .int .i64 k.p.ways, .slice a3 k.p.es.length c3] ∧
    TlbAt w (.agg #[.int .i64 k.i.sets, .int .i64 k.i.ways, .slice a1 k.i.es.length c1]) k.i ∧ TlbAt w (.agg #[.int .i64 k.d.sets, .int .i64 k.d.ways, .slice a2 k.d.es.length c2]) k.d ∧ TlbAt w (.agg #[.int .i64 k.p.sets, .int .i64 k.p.ways, .slice a3 k.p.es.length c3]) k.p

theorem KAt.keep {w w' : World} {v : Value} {k : KM} (h : KAt w v k) (hb : Below w.heap.size w w') : KAt w' v k := by
  obtain ⟨a1, c1, a2, c2, a3, c3, rfl, h1, h2, h3⟩ := h
  exact ⟨a1, c1, a2, c2, a3, c3, rfl, h1.keep hb, h2.keep hb, h3.keep hb⟩

set_option maxHeartbeats 800000 in
theorem l4GoodCaches_any (v : Value) (k : KM) (w : World) (h : KAt w v k) :
    Calls Tryz.prog 38 #[v] w fun e w' => e = .returned (.bool (goodKM k)) ∧ Below w.heap.size w w' := by
  obtain ⟨a1, c1, a2, c2, a3, c3, rfl, t1, t2, t3⟩ := h
  obtain ⟨q1, hq1⟩ : ∃ q, validM k.i false = q := ⟨_, rfl⟩
  obtain ⟨q2, hq2⟩ : ∃ q, validM k.d false = q := ⟨_, rfl⟩
  obtain ⟨q3, hq3⟩ : ∃ q, validM k.p true = q := ⟨_, rfl⟩
  unfold goodKM
  rw [hq1, hq2, hq3]
  have n1 := (Below.refl w.heap.size w).alloc (Nat.le_refl _) (Obj.cells #[.int .i64 k.i.sets, .int .i64 k.i.ways, .slice a1 k.i.es.length c1, .int .i64 k.d.sets, .int .i64 k.d.ways, .slice a2 k.d.es.length c2, .int .i64 k.p.sets, .int .i64 k.p.ways, .slice a3 k.p.es.length c3] 36)
  have HV1 : Hid (∀ v, Below w.heap.size w v → Calls Tryz.prog 85 #[.agg #[.int .i64 k.i.sets, .int .i64 k.i.ways, .slice a1 k.i.es.length c1], .bool false] v fun e w' => e = .returned (.bool q1) ∧ Below v.heap.size v w') := fun v hv => by
    have := specValid_any _ _ false v (t1.keep hv)
    rw [hq1] at this
    exact this
  have HV2 : Hid (∀ v, Below w.heap.size w v → Calls Tryz.prog 85 #[.agg #[.int .i64 k.d.sets, .int .i64 k.d.ways, .slice a2 k.d.es.length c2], .bool false] v fun e w' => e = .returned (.bool q2) ∧ Below v.heap.size v w') := fun v hv => by
    have := specValid_any _ _ false v (t2.keep hv)
    rw [hq2] at this
    exact this
  have HV3 : Hid (∀ v, Below w.heap.size w v → Calls Tryz.prog 85 #[.agg #[.int .i64 k.p.sets, .int .i64 k.p.ways, .slice a3 k.p.es.length c3], .bool true] v fun e w' => e = .returned (.bool q3) ∧ Below v.heap.size v w') := fun v hv => by
    have := specValid_any _ _ true v (t3.keep hv)
    rw [hq3] at this
    exact this
  have H1 : Hid (∀ v, Below (w.heap.size + 1) (w.alloc (Obj.cells #[.int .i64 k.i.sets, .int .i64 k.i.ways, .slice a1 k.i.es.length c1, .int .i64 k.d.sets, .int .i64 k.d.ways, .slice a2 k.d.es.length c2, .int .i64 k.p.sets, .int .i64 k.p.ways, .slice a3 k.p.es.length c3] 36)) v → v.heap[w.heap.size]? = some (.cells #[.int .i64 k.i.sets, .int .i64 k.i.ways, .slice a1 k.i.es.length c1, .int .i64 k.d.sets, .int .i64 k.d.ways, .slice a2 k.d.es.length c2, .int .i64 k.p.sets, .int .i64 k.p.ways, .slice a3 k.p.es.length c3] 36 (0, 0))) :=
    fun v hv => (hv.block w.heap.size (by omega)).trans (heap_alloc_new w _)
  clear t1 t2 t3 hq1 hq2 hq3
  generalize k.i.sets = s1 at *
  generalize k.i.ways = w1 at *
  generalize k.i.es.length = m1 at *
  generalize k.d.sets = s2 at *
  generalize k.d.ways = w2 at *
  generalize k.d.es.length = m2 at *
  generalize k.p.sets = s3 at *
  generalize k.p.ways = w3 at *
  generalize k.p.es.length = m3 at *
  cases q1
  · go_enter Tryz.func38, Tryz.ntmps38
    go_wp2_with fail
    refine (HV1.out _ n1).mono ?_
    rintro e v2 ⟨rfl, n2⟩
    have n12 := Below.step n1 n2 (Nat.le_refl _)
    go_wp2_with fail
    go_ret
    exact ⟨rfl, n12⟩
  · go_enter Tryz.func38, Tryz.ntmps38
    go_wp2_with fail
    refine (HV1.out _ n1).mono ?_
    rintro e v2 ⟨rfl, n2⟩
    have n12 := Below.step n1 n2 (Nat.le_refl _)
    have K2 := nine_cells (H1.out v2 (n2.mono (by simp)))
    obtain ⟨x0, x1, x2, x3, x4, x5, x6, x7, x8⟩ := K2
    cases q2
    · go_wp2_with fail
      refine (HV2.out _ n12).mono ?_
      rintro e v3 ⟨rfl, n3⟩
      have n13 := Below.step n12 n3 (Nat.le_refl _)
      go_wp2_with fail
      go_ret
      exact ⟨rfl, n13⟩
    · go_wp2_with fail
      refine (HV2.out _ n12).mono ?_
      rintro e v3 ⟨rfl, n3⟩
      have n13 := Below.step n12 n3 (Nat.le_refl _)
      have n23 := Below.step n2 n3 (Nat.le_refl _)
      clear x0 x1 x2 x3 x4 x5 x6 x7 x8
      have K3 := nine_cells (H1.out v3 (n23.mono (by simp)))
      obtain ⟨x0, x1, x2, x3, x4, x5, x6, x7, x8⟩ := K3
      go_wp2_with fail
      refine (HV3.out _ n13).mono ?_
      rintro e v4 ⟨rfl, n4⟩
      have n14 := Below.step n13 n4 (Nat.le_refl _)
      go_wp2_with fail
      go_ret
      exact ⟨by simp, n14⟩

set_option maxHeartbeats 800000 in
theorem l4Entry_any (level va satp pte : Int) (w : World) (hl0 : 0 ≤ level) (hl2 : level ≤ 2) (hv0 : 0 ≤ va) (hv1 : va ≤ 18446744073709551615) (hs0 : 0 ≤ satp) (hs1 : satp ≤ 18446744073709551615) (hp0 : 0 ≤ pte) (hp1 : pte ≤ 18446744073709551615) :
    Calls Tryz.prog 51 #[.int .i64 level, .int .u64 va, .int .u64 satp, .int .u64 pte] w fun e w' => e = .returned (entV (entM level va satp pte)) ∧ Below w.heap.size w w' := by
  unfold entV entM
  simp only
  have n1 := (Below.refl w.heap.size w).alloc (Nat.le_refl _) (Obj.cells #[.bool false, .int .i64 0, .int .u64 0, .int .u64 0, .bool false, .int .u64 0] 101)
  go_enter Tryz.func51, Tryz.ntmps51
  go_wp2_with (first
    | (go_at_call 98; refine (l4Tag_at va level _ hv0 hv1 hl0 hl2).mono ?_; rintro e w' ⟨rfl, nq, rfl⟩)
    | (go_at_call 44; refine (l3Asid_at satp _ hs0 hs1).mono ?_; rintro e w' ⟨rfl, nr, rfl⟩)
    | (go_at_call 96; refine (l2Bit_at pte 5 32 _ hp0 hp1 (by omega) (by omega) rfl).mono ?_; rintro e w' ⟨rfl, ns, rfl⟩))
  exact bodyPost_ret (v := .agg #[.bool true, .int .i64 level, .int .u64 (tagM va level), .int .u64 (asidM satp), .bool (bitB pte 32), .int .u64 pte]) (by simp [results, Tryz.results51, go_sem]) rfl ⟨rfl, bel6 (below_drewN n1 _) (Nat.le_refl _) _ _ _ _ _ _⟩

/-- Three caches, each in a row of one's own. -/
def KOwn (base : Nat) (w : World) (v : Value) (k : KM) : Prop :=
  ∃ g1 c1 g2 c2 g3 c3, v = .agg #[.int .i64 k.i.sets, .int .i64 k.i.ways, .slice (some ⟨g1, 0, none⟩) k.i.es.length c1, .int .i64 k.d.sets, .int .i64 k.d.ways, .slice (some ⟨g2, 0, none⟩) k.d.es.length c2, .int .i64 k.p.sets, .int .i64 k.p.ways, .slice (some ⟨g3, 0, none⟩) k.p.es.length c3] ∧
    w.ownsRow base 101 6 (.slice (some ⟨g1, 0, none⟩) k.i.es.length c1) k.i.es.length (entsC k.i.es) ∧ w.ownsRow base 101 6 (.slice (some ⟨g2, 0, none⟩) k.d.es.length c2) k.d.es.length (entsC k.d.es) ∧ w.ownsRow base 101 6 (.slice (some ⟨g3, 0, none⟩) k.p.es.length c3) k.p.es.length (entsC k.p.es)

set_option maxRecDepth 20000 in
set_option maxHeartbeats 1600000 in
theorem l4Caches_any (v : Value) (k : KM) (w : World) (h : KAt w v k) :
    Calls Tryz.prog 39 #[v] w fun e w' => (∃ x, e = .returned x ∧ KOwn w.heap.size w' x k) ∧ Below w.heap.size w w' := by
  obtain ⟨a1, c1, a2, c2, a3, c3, rfl, t1, t2, t3⟩ := h
  have HL1 : Hid (∀ v, Below w.heap.size w v → Calls Tryz.prog 86 #[.agg #[.int .i64 k.i.sets, .int .i64 k.i.ways, .slice a1 k.i.es.length c1]] v fun e w' => (∃ x, e = .returned x ∧ TlbOwn v.heap.size w' x k.i) ∧ Below v.heap.size v w') := fun v hv => l4Copy_any _ _ v (t1.keep hv)
  have HL2 : Hid (∀ v, Below w.heap.size w v → Calls Tryz.prog 86 #[.agg #[.int .i64 k.d.sets, .int .i64 k.d.ways, .slice a2 k.d.es.length c2]] v fun e w' => (∃ x, e = .returned x ∧ TlbOwn v.heap.size w' x k.d) ∧ Below v.heap.size v w') := fun v hv => l4Copy_any _ _ v (t2.keep hv)
  have HL3 : Hid (∀ v, Below w.heap.size w v → Calls Tryz.prog 86 #[.agg #[.int .i64 k.p.sets, .int .i64 k.p.ways, .slice a3 k.p.es.length c3]] v fun e w' => (∃ x, e = .returned x ∧ TlbOwn v.heap.size w' x k.p) ∧ Below v.heap.size v w') := fun v hv => l4Copy_any _ _ v (t3.keep hv)
  clear t1 t2 t3
  unfold TlbOwn at HL1 HL2 HL3
  unfold KOwn
  generalize k.i.es = e1 at *
  generalize k.d.es = e2 at *
  generalize k.p.es = e3 at *
  generalize k.i.sets = s1 at *
  generalize k.i.ways = w1 at *
  generalize k.d.sets = s2 at *
  generalize k.d.ways = w2 at *
  generalize k.p.sets = s3 at *
  generalize k.p.ways = w3 at *
  obtain ⟨m1, hm1⟩ : ∃ m, e1.length = m := ⟨_, rfl⟩
  obtain ⟨m2, hm2⟩ : ∃ m, e2.length = m := ⟨_, rfl⟩
  obtain ⟨m3, hm3⟩ : ∃ m, e3.length = m := ⟨_, rfl⟩
  rw [hm1] at HL1 ⊢
  rw [hm2] at HL2 ⊢
  rw [hm3] at HL3 ⊢
  clear hm1 hm2 hm3
  generalize entsC e1 = q1 at *
  generalize entsC e2 = q2 at *
  generalize entsC e3 = q3 at *
  have n1 := ((Below.refl w.heap.size w).alloc (Nat.le_refl _) (Obj.cells #[.int .i64 s1, .int .i64 w1, .slice a1 m1 c1, .int .i64 s2, .int .i64 w2, .slice a2 m2 c2, .int .i64 s3, .int .i64 w3, .slice a3 m3 c3] 36)).alloc (by simp) (Obj.cells #[.int .i64 0, .int .i64 0, .slice none 0 0, .int .i64 0, .int .i64 0, .slice none 0 0, .int .i64 0, .int .i64 0, .slice none 0 0] 36)
  have H1 : Hid (((w.alloc (Obj.cells #[.int .i64 s1, .int .i64 w1, .slice a1 m1 c1, .int .i64 s2, .int .i64 w2, .slice a2 m2 c2, .int .i64 s3, .int .i64 w3, .slice a3 m3 c3] 36)).alloc (Obj.cells #[.int .i64 0, .int .i64 0, .slice none 0 0, .int .i64 0, .int .i64 0, .slice none 0 0, .int .i64 0, .int .i64 0, .slice none 0 0] 36)).heap[w.heap.size]? = some (.cells #[.int .i64 s1, .int .i64 w1, .slice a1 m1 c1, .int .i64 s2, .int .i64 w2, .slice a2 m2 c2, .int .i64 s3, .int .i64 w3, .slice a3 m3 c3] 36 (0, 0))) := by
    show _ = _
    rw [heap_alloc_old _ _ (by simp)]
    exact heap_alloc_new w _
  have H2 : Hid (((w.alloc (Obj.cells #[.int .i64 s1, .int .i64 w1, .slice a1 m1 c1, .int .i64 s2, .int .i64 w2, .slice a2 m2 c2, .int .i64 s3, .int .i64 w3, .slice a3 m3 c3] 36)).alloc (Obj.cells #[.int .i64 0, .int .i64 0, .slice none 0 0, .int .i64 0, .int .i64 0, .slice none 0 0, .int .i64 0, .int .i64 0, .slice none 0 0] 36)).heap[w.heap.size + 1]? = some (.cells #[.int .i64 0, .int .i64 0, .slice none 0 0, .int .i64 0, .int .i64 0, .slice none 0 0, .int .i64 0, .int .i64 0, .slice none 0 0] 36 (0, 0))) := by
    have := heap_alloc_new (w.alloc (Obj.cells #[.int .i64 s1, .int .i64 w1, .slice a1 m1 c1, .int .i64 s2, .int .i64 w2, .slice a2 m2 c2, .int .i64 s3, .int .i64 w3, .slice a3 m3 c3] 36)) (Obj.cells #[.int .i64 0, .int .i64 0, .slice none 0 0, .int .i64 0, .int .i64 0, .slice none 0 0, .int .i64 0, .int .i64 0, .slice none 0 0] 36)
    simp only [World.size_alloc] at this
    exact this
  have l1 : w.heap.size + 1 < ((w.alloc (Obj.cells #[.int .i64 s1, .int .i64 w1, .slice a1 m1 c1, .int .i64 s2, .int .i64 w2, .slice a2 m2 c2, .int .i64 s3, .int .i64 w3, .slice a3 m3 c3] 36)).alloc (Obj.cells #[.int .i64 0, .int .i64 0, .slice none 0 0, .int .i64 0, .int .i64 0, .slice none 0 0, .int .i64 0, .int .i64 0, .slice none 0 0] 36)).heap.size := by simp
  go_enter Tryz.func39, Tryz.ntmps39
  go_wp2_with fail
  generalize ((w.alloc (Obj.cells #[.int .i64 s1, .int .i64 w1, .slice a1 m1 c1, .int .i64 s2, .int .i64 w2, .slice a2 m2 c2, .int .i64 s3, .int .i64 w3, .slice a3 m3 c3] 36)).alloc (Obj.cells #[.int .i64 0, .int .i64 0, .slice none 0 0, .int .i64 0, .int .i64 0, .slice none 0 0, .int .i64 0, .int .i64 0, .slice none 0 0] 36)) = v1 at n1 H1 H2 l1 ⊢
  have HC : Hid (∀ v, Below v1.heap.size v1 v → v.cell? ⟨w.heap.size, 0, none⟩ = some (.int .i64 s1) ∧ v.cell? ⟨w.heap.size, 1, none⟩ = some (.int .i64 w1) ∧ v.cell? ⟨w.heap.size, 2, none⟩ = some (.slice a1 m1 c1) ∧ v.cell? ⟨w.heap.size, 3, none⟩ = some (.int .i64 s2) ∧ v.cell? ⟨w.heap.size, 4, none⟩ = some (.int .i64 w2) ∧ v.cell? ⟨w.heap.size, 5, none⟩ = some (.slice a2 m2 c2) ∧ v.cell? ⟨w.heap.size, 6, none⟩ = some (.int .i64 s3) ∧ v.cell? ⟨w.heap.size, 7, none⟩ = some (.int .i64 w3) ∧ v.cell? ⟨w.heap.size, 8, none⟩ = some (.slice a3 m3 c3)) := fun v hv => nine_cells (heap_keep H1.out hv (by omega))
  obtain ⟨b0, b1, b2, b3, b4, b5, b6, b7, b8⟩ := HC.out v1 (Below.refl _ _)
  have i1 : w.heap.size + 1 ≠ w.heap.size := by omega
  have i2 : w.heap.size ≠ w.heap.size + 1 := by omega
  go_region_held3 (fun w' => w'.cell? ⟨w.heap.size, 0, none⟩ = some (.int .i64 s1) ∧ w'.cell? ⟨w.heap.size, 1, none⟩ = some (.int .i64 w1) ∧ w'.cell? ⟨w.heap.size, 2, none⟩ = some (.slice a1 m1 c1) ∧ w'.cell? ⟨w.heap.size, 3, none⟩ = some (.int .i64 s2) ∧ w'.cell? ⟨w.heap.size, 4, none⟩ = some (.int .i64 w2) ∧ w'.cell? ⟨w.heap.size, 5, none⟩ = some (.slice a2 m2 c2) ∧ w'.cell? ⟨w.heap.size, 6, none⟩ = some (.int .i64 s3) ∧ w'.cell? ⟨w.heap.size, 7, none⟩ = some (.int .i64 w3) ∧ w'.cell? ⟨w.heap.size, 8, none⟩ = some (.slice a3 m3 c3)) (go_keep)
    (first
      | (go_at_call_of 86 (Value.agg #[Value.int IntKind.i64 s1, Value.int IntKind.i64 w1, Value.slice a1 m1 c1]); refine (HL1.out _ (Below.step n1 (Below.refl v1.heap.size v1).drew (Nat.le_refl _))).mono ?_; rintro e y1 ⟨⟨x1, rfl, g1, d1, rfl, o1⟩, n1'⟩; have my1 : Below v1.heap.size v1 y1 := Below.step (Below.refl v1.heap.size v1).drew n1' (Nat.le_refl _); have kk := HC.out y1 my1; obtain ⟨z10, z11, z12, z13, z14, z15, z16, z17, z18⟩ := kk; have OO1 : Hid _ := o1; clear o1)
      | (go_at_call_of 86 (Value.agg #[Value.int IntKind.i64 s2, Value.int IntKind.i64 w2, Value.slice a2 m2 c2]); refine (HL2.out _ (Below.step n1 my1 (Nat.le_refl _))).mono ?_; rintro e y2 ⟨⟨x2, rfl, g2, d2, rfl, o2⟩, n2'⟩; have my2 : Below v1.heap.size v1 y2 := Below.step my1 n2' (Nat.le_refl _); have kk := HC.out y2 my2; obtain ⟨z20, z21, z22, z23, z24, z25, z26, z27, z28⟩ := kk; have OO2 : Hid _ := o2; clear o2; have OP1 : Hid _ := own_below OO1.out n2'; clear OO1)
      | (go_at_call_of 86 (Value.agg #[Value.int IntKind.i64 s3, Value.int IntKind.i64 w3, Value.slice a3 m3 c3]); refine (HL3.out _ (Below.step n1 my2 (Nat.le_refl _))).mono ?_; rintro e y3 ⟨⟨x3, rfl, g3, d3, rfl, o3⟩, n3'⟩; have my3 : Below v1.heap.size v1 y3 := Below.step my2 n3' (Nat.le_refl _); have kk := HC.out y3 my3; obtain ⟨z30, z31, z32, z33, z34, z35, z36, z37, z38⟩ := kk; have OO3 : Hid _ := o3; clear o3; have OP1' : Hid _ := own_below OP1.out n3'; have OP2 : Hid _ := own_below OO2.out n3'; clear OP1 OO2; have F3 := hid_keep H2 my3; have ff := nine_free F3.out; have f0 := ff 0; have f1 := ff 1; have f2 := ff 2; have f3 := ff 3; have f4 := ff 4; have f5 := ff 5; have f6 := ff 6; have f7 := ff 7; have f8 := ff 8; have kk := nine_cells F3.out; obtain ⟨j0, j1, j2, j3, j4, j5, j6, j7, j8⟩ := kk; clear ff))
  go_wp2_with fail
  have r1 : w.heap.size + 1 < y1.heap.size := Nat.lt_of_lt_of_le l1 my1.size
  have r2 : w.heap.size + 1 < y2.heap.size := Nat.lt_of_lt_of_le l1 my2.size
  exact bodyPost_ret (v := .agg #[.int .i64 s1, .int .i64 w1, .slice (some ⟨g1, 0, none⟩) m1 d1, .int .i64 s2, .int .i64 w2, .slice (some ⟨g2, 0, none⟩) m2 d2, .int .i64 s3, .int .i64 w3, .slice (some ⟨g3, 0, none⟩) m3 d3]) (by simp [results, Tryz.results39, go_sem, j0, j1, j2, j3, j4, j5, j6, j7, j8]) rfl
    ⟨⟨_, rfl, g1, d1, g2, d2, g3, d3, rfl, own_low (own_gb OP1'.out (gb9 y3 (w.heap.size + 1) _ _ _ _ _ _ _ _ _) l1) (Nat.le_of_lt (Nat.lt_trans (Nat.lt_succ_self _) l1)), own_low (own_gb OP2.out (gb9 y3 (w.heap.size + 1) _ _ _ _ _ _ _ _ _) r1) (by omega), own_low (own_gb OO3.out (gb9 y3 (w.heap.size + 1) _ _ _ _ _ _ _ _ _) r2) (by omega)⟩, bel9 (Below.step n1 my3 (Nat.le_refl _)) (by omega) _ _ _ _ _ _ _ _ _⟩

theorem KOwn.at {base : Nat} {w : World} {v : Value} {k : KM} (h : KOwn base w v k) (h1 : tlbOk k.i) (h2 : tlbOk k.d) (h3 : tlbOk k.p) : KAt w v k := by
  obtain ⟨g1, c1, g2, c2, g3, c3, rfl, o1, o2, o3⟩ := h
  exact ⟨some ⟨g1, 0, none⟩, c1, some ⟨g2, 0, none⟩, c2, some ⟨g3, 0, none⟩, c3, rfl, TlbOwn.at ⟨g1, c1, rfl, o1⟩ h1, TlbOwn.at ⟨g2, c2, rfl, o2⟩ h2, TlbOwn.at ⟨g3, c3, rfl, o3⟩ h3⟩

end Go.Proofs.YthekickjjaleaacGreat

/- Plain mathematics of chapter 3: the codes of walks. -/
namespace Go.Proofs.YthekickjjaleaacGreat
set_option linter.unusedVariables false

theorem fromM_code (zs : List Int) (va : Int) : ∀ (l : Nat) (n : Int), (fromM zs va l n).1 = 1 ∨ (fromM zs va l n).1 = 2 ∨ (fromM zs va l n).1 = 3
  | 0, n => by
    unfold fromM
    split
    · simp
    · split
      · simp
      · split <;> simp
  | l + 1, n => by
    unfold fromM
    split
    · simp
    · split
      · simp
      · split
        · simp
        · exact fromM_code zs va l _

theorem walkM_code (zs : List Int) (root va : Int) : (walkM zs root va).1 = 1 ∨ (walkM zs root va).1 = 2 ∨ (walkM zs root va).1 = 3 := by
  unfold walkM
  split
  · simp
  · exact fromM_code zs va 2 _

end Go.Proofs.YthekickjjaleaacGreat

/- Plain mathematics of chapter 4: what the translation with caches promises (P6, P7, P8). -/
namespace Go.Proofs.YthekickjjaleaacGreat
set_option linter.unusedVariables false

theorem tagM_bd (va level : Int) (h0 : 0 ≤ level) (h2 : level ≤ 2) : 0 ≤ tagM va level ∧ tagM va level < pow9 level := by
  unfold tagM pow9
  rcases (show level = 0 ∨ level = 1 ∨ level = 2 by omega) with rfl | rfl | rfl <;> simp <;> omega

theorem kindM_level {pte level : Int} (h : kindM pte level ≠ 0) : 0 ≤ level ∧ level ≤ 2 := by
  unfold kindM at h
  split at h
  · exact absurd rfl h
  · omega

theorem entM_good (level va satp pte : Int) (p : Bool) (hk : kindM pte level = wantM p) : goodEntM (entM level va satp pte) p = true := by
  have hl : 0 ≤ level ∧ level ≤ 2 := kindM_level (by rw [hk]; cases p <;> decide)
  have ht := tagM_bd va level hl.1 hl.2
  have ha : asidM satp ≤ 65535 := by unfold asidM; omega
  simp [goodEntM, entM, hl.1, hl.2, ht.2, ha, hk]

theorem entM_tag (level va satp pte : Int) (p : Bool) (hk : kindM pte level = wantM p) : 0 ≤ (entM level va satp pte).tag := by
  have hl : 0 ≤ level ∧ level ≤ 2 := kindM_level (by rw [hk]; cases p <;> decide)
  exact (tagM_bd va level hl.1 hl.2).1

theorem ptrs_valid (va satp pick : Int) : ∀ (rs : List RecM) (p : TlbM), validM p true = true → validM (ptrsM va satp pick rs p) true = true
  | [], p, h => h
  | r :: rs, p, h => by
    rw [ptrsM]
    refine ptrs_valid va satp pick rs _ ?_
    split
    · rename_i hk
      exact insert_valid p _ pick true h (entM_good _ _ _ _ true hk) (entM_tag _ _ _ _ true hk)
    · exact h

/-- A leaf that a walk answers is a leaf. -/
theorem fromM_kind (zs : List Int) (va : Int) : ∀ (l : Nat) (n : Int), (fromM zs va l n).1 = 1 → kindM (fromM zs va l n).2.2.1 (fromM zs va l n).2.1 = 2
  | 0, n => by
    intro h
    unfold fromM at h ⊢
    split at h
    · simp at h
    · rename_i h1
      rw [if_neg h1]
      split at h
      · simp at h
      · rename_i h2
        rw [if_neg h2]
        split at h
        · rename_i h3
          rw [if_pos h3]
          exact h3
        · simp at h
  | l + 1, n => by
    intro h
    unfold fromM at h ⊢
    split at h
    · simp at h
    · rename_i h1
      rw [if_neg h1]
      split at h
      · simp at h
      · rename_i h2
        rw [if_neg h2]
        split at h
        · rename_i h3
          rw [if_pos h3]
          exact h3
        · rename_i h3
          rw [if_neg h3]
          exact fromM_kind zs va l _ h

theorem walkM_kind (zs : List Int) (root va : Int) (h : (walkM zs root va).1 = 1) : kindM (walkM zs root va).2.2.1 (walkM zs root va).2.1 = 2 := by
  unfold walkM at h ⊢
  split at h
  · simp at h
  · rename_i hc
    rw [if_neg hc]
    exact fromM_kind zs va 2 _ h

theorem pageM_ne (kind : Int) : pageM kind ≠ 0 := by
  unfold pageM
  split
  · decide
  · split <;> decide

theorem accessM_ne (kind : Int) : accessM kind ≠ 0 := by
  unfold accessM
  split
  · decide
  · split <;> decide

/-- Where neither cache finds anything the translation with caches is the plain one. -/
theorem trans_plain (zs : List Int) (mode : Int) (sum mxr : Bool) (satp : Int) (k : KM) (kind va pick : Int) (hk : goodKM k = true) (h1 : 0 ≤ kind ∧ kind ≤ 2) (h2 : 0 ≤ mode ∧ mode ≤ 2) (h3 : 0 ≤ pick ∧ pick ≤ 255)
    (hn : onM mode satp = true → canonM va = true → (hitM (pickM k kind) va (asidM satp)).1 = false ∧ (hitM k.p va (asidM satp)).1 = false) :
    (tlbTransM zs mode sum mxr satp k kind va pick).1 = plainM zs mode sum mxr satp kind va := by
  have hb1 : ¬ (goodKM k = false ∨ kind < 0 ∨ 2 < kind ∨ mode < 0 ∨ 2 < mode ∨ pick < 0 ∨ 255 < pick) := by rw [hk]; simp; omega
  have hb2 : ¬ (kind < 0 ∨ 2 < kind ∨ mode < 0 ∨ 2 < mode) := by omega
  have e1 : plainM zs mode sum mxr satp kind va = if onM mode satp = false then (0, va) else answerM (walkM zs satp va) mode sum mxr kind va := by
    unfold plainM
    rw [if_neg hb2]
  rw [e1]
  unfold tlbTransM
  rw [if_neg hb1]
  cases hon : onM mode satp
  · simp only [if_true]
  · simp only [Bool.true_eq_false, if_false]
    cases hc : canonM va
    · simp only [if_true]
      unfold walkM answerM
      rw [if_pos hc, if_pos rfl]
    · obtain ⟨q1, q2⟩ := hn hon hc
      simp only [Bool.true_eq_false, if_false, q1, Bool.false_eq_true, resumeM, q2]

/-- What a fence leaves does not fit an address that it covers. -/
theorem flush_none (t : TlbM) (f : FenceM) (va asid : Int) (he : eitherM t = true) (hv : f.hasVa = true → canonM f.va = true ∧ ∀ l, 0 ≤ l → l ≤ 2 → tagM f.va l = tagM va l)
    (ha : f.hasAsid = true → f.asid = asid ∧ ∀ x ∈ t.es, x.valid = true → x.glob = true → x.tag ≠ tagM va x.level) : ∀ x ∈ (flushM t f).es, fitsM x va asid = false := by
  intro x hx
  unfold flushM at hx
  rw [if_pos he] at hx
  simp only [List.mem_map] at hx
  obtain ⟨y, hy, rfl⟩ := hx
  unfold struckM
  split
  · simp [fitsM, ent0]
  · rename_i hs
    cases hf : fitsM y va asid
    · rfl
    · exfalso
      apply hs
      simp only [fitsM, Bool.and_eq_true, beq_iff_eq, Bool.or_eq_true] at hf
      obtain ⟨⟨hval, htag⟩, hga⟩ := hf
      obtain ⟨j, hj⟩ := List.getElem?_of_mem hy
      have hl := either_level he j y hj hval
      simp only [hval, Bool.true_and, coversM, Bool.and_eq_true, Bool.not_eq_true', Bool.or_eq_true]
      refine ⟨?_, ?_⟩
      · cases hh : f.hasVa
        · rfl
        · obtain ⟨c1, c2⟩ := hv hh
          rw [c1, htag, c2 _ hl.1 hl.2]
          simp
      · cases hh : f.hasAsid
        · exact .inl rfl
        · right
          obtain ⟨c1, c2⟩ := ha hh
          have hgl : y.glob = false := by
            cases hg : y.glob
            · rfl
            · exact absurd htag (c2 y hy hval hg)
          rw [hgl] at hga ⊢
          simp only [Bool.false_eq_true, false_or] at hga
          rw [hga, c1]
          simp

/-- Valid caches stay valid. -/
theorem trans_good (zs : List Int) (mode : Int) (sum mxr : Bool) (satp : Int) (k : KM) (kind va pick : Int) (hk : goodKM k = true) (h1 : 0 ≤ kind ∧ kind ≤ 2) (h2 : 0 ≤ mode ∧ mode ≤ 2) (h3 : 0 ≤ pick ∧ pick ≤ 255) :
    goodKM (tlbTransM zs mode sum mxr satp k kind va pick).2 = true := by
  have hk' := hk
  simp only [goodKM, Bool.and_eq_true] at hk'
  obtain ⟨⟨gi, gd⟩, gp⟩ := hk'
  unfold tlbTransM
  rw [if_neg (by rw [hk]; simp; omega)]
  split
  · exact hk
  · split
    · exact hk
    · split
      · exact hk
      · simp only
        have gp' := ptrs_valid va satp pick (resumeM zs satp va (hitM k.p va (asidM satp))).2.2.2 k.p gp
        split
        · rename_i ha
          have hkind : kindM (resumeM zs satp va (hitM k.p va (asidM satp))).2.2.1 (resumeM zs satp va (hitM k.p va (asidM satp))).2.1 = 2 := by
            have hcode : (resumeM zs satp va (hitM k.p va (asidM satp))).1 = 1 := by
              have hc : (resumeM zs satp va (hitM k.p va (asidM satp))).1 = 1 ∨ (resumeM zs satp va (hitM k.p va (asidM satp))).1 = 2 ∨ (resumeM zs satp va (hitM k.p va (asidM satp))).1 = 3 := by
                unfold resumeM
                split
                · exact fromM_code zs va _ _
                · exact walkM_code zs satp va
              unfold answerM at ha
              rcases hc with hc | hc | hc
              · exact hc
              · rw [if_pos hc] at ha
                exact absurd ha (pageM_ne kind)
              · rw [if_neg (by rw [hc]; decide), if_pos hc] at ha
                exact absurd ha (accessM_ne kind)
            unfold resumeM at hcode ⊢
            split at hcode
            · rename_i hu
              rw [if_pos hu]
              exact fromM_kind zs va _ _ hcode
            · rename_i hu
              rw [if_neg hu]
              exact walkM_kind zs satp va hcode
          have hge := entM_good _ va satp _ false hkind
          have hgt := entM_tag _ va satp _ false hkind
          unfold putM pickM
          split
          · simp only [goodKM, Bool.and_eq_true]
            exact ⟨⟨insert_valid _ _ pick false gi hge hgt, gd⟩, gp'⟩
          · simp only [goodKM, Bool.and_eq_true]
            exact ⟨⟨gi, insert_valid _ _ pick false gd hge hgt⟩, gp'⟩
        · simp only [goodKM, Bool.and_eq_true]
          exact ⟨⟨gi, gd⟩, gp'⟩

end Go.Proofs.YthekickjjaleaacGreat

/- After a translation that succeeds, the cache of the kind holds a granted entry whose address is the answer. Plain functions. -/
namespace Go.Proofs.YthekickjjaleaacGreat
set_option linter.unusedVariables false

/-- An answer without a fault: the walk ended in a leaf that is granted. -/
theorem answer_leaf {r : Int × Int × Int × List RecM} {mode : Int} {sum mxr : Bool} {kind va : Int} (ha : (answerM r mode sum mxr kind va).1 = 0) :
    r.1 ≠ 2 ∧ r.1 ≠ 3 ∧ grantM r.2.2.1 kind mode sum mxr = true ∧ (answerM r mode sum mxr kind va).2 = physM r.2.2.1 r.2.1 va := by
  unfold answerM at ha ⊢
  by_cases h2 : r.1 = 2
  · rw [if_pos h2] at ha
    exact absurd ha (pageM_ne kind)
  · rw [if_neg h2] at ha ⊢
    by_cases h3 : r.1 = 3
    · rw [if_pos h3] at ha
      exact absurd ha (accessM_ne kind)
    · rw [if_neg h3] at ha ⊢
      unfold leafM at ha ⊢
      by_cases hg : grantM r.2.2.1 kind mode sum mxr = true
      · rw [if_pos hg]
        exact ⟨h2, h3, hg, rfl⟩
      · rw [if_neg hg] at ha
        exact absurd ha (pageM_ne kind)

theorem resume_kind {zs : List Int} {satp va : Int} {up : Bool × Int × Int × Int} (h2 : (resumeM zs satp va up).1 ≠ 2) (h3 : (resumeM zs satp va up).1 ≠ 3) :
    kindM (resumeM zs satp va up).2.2.1 (resumeM zs satp va up).2.1 = 2 := by
  unfold resumeM at h2 h3 ⊢
  split
  · rename_i hu
    rw [if_pos hu] at h2 h3
    exact fromM_kind zs va _ _ (by rcases fromM_code zs va (up.2.2.1 - 1).toNat (ppnM up.2.2.2) with h | h | h <;> omega)
  · rename_i hu
    rw [if_neg hu] at h2 h3
    exact walkM_kind zs satp va (by rcases walkM_code zs satp va with h | h | h <;> omega)

theorem ent_fits (level va satp pte : Int) : fitsM (entM level va satp pte) va (asidM satp) = true := by
  simp [fitsM, entM]

/-- A translation that succeeds leaves a granted entry, and its address is the answer. -/
theorem trans_grant (zs : List Int) (mode : Int) (sum mxr : Bool) (satp : Int) (k : KM) (kind va pick : Int) (hk : goodKM k = true) (h1 : 0 ≤ kind ∧ kind ≤ 2) (h2 : 0 ≤ mode ∧ mode ≤ 2) (h3 : 0 ≤ pick ∧ pick ≤ 255)
    (hon : onM mode satp = true) (h0 : (tlbTransM zs mode sum mxr satp k kind va pick).1.1 = 0) :
    (hitM (pickM (tlbTransM zs mode sum mxr satp k kind va pick).2 kind) va (asidM satp)).1 = true ∧
    grantM (hitM (pickM (tlbTransM zs mode sum mxr satp k kind va pick).2 kind) va (asidM satp)).2.2.2 kind mode sum mxr = true ∧
    (tlbTransM zs mode sum mxr satp k kind va pick).1.2 = physM (hitM (pickM (tlbTransM zs mode sum mxr satp k kind va pick).2 kind) va (asidM satp)).2.2.2 (hitM (pickM (tlbTransM zs mode sum mxr satp k kind va pick).2 kind) va (asidM satp)).2.2.1 va := by
  have hk' := hk
  simp only [goodKM, Bool.and_eq_true] at hk'
  obtain ⟨⟨gi, gd⟩, gp⟩ := hk'
  have gt : validM (pickM k kind) false = true := by unfold pickM; split <;> assumption
  have hb1 : ¬ (goodKM k = false ∨ kind < 0 ∨ 2 < kind ∨ mode < 0 ∨ 2 < mode ∨ pick < 0 ∨ 255 < pick) := by rw [hk]; simp; omega
  have e : tlbTransM zs mode sum mxr satp k kind va pick = if canonM va = false then ((pageM kind, 0), k)
      else if (hitM (pickM k kind) va (asidM satp)).1 = true then (leafM (hitM (pickM k kind) va (asidM satp)).2.2.2 (hitM (pickM k kind) va (asidM satp)).2.2.1 mode sum mxr kind va, k)
      else (answerM (resumeM zs satp va (hitM k.p va (asidM satp))) mode sum mxr kind va, if (answerM (resumeM zs satp va (hitM k.p va (asidM satp))) mode sum mxr kind va).1 = 0 then putM ⟨k.i, k.d, ptrsM va satp pick (resumeM zs satp va (hitM k.p va (asidM satp))).2.2.2 k.p⟩ kind (insertM (pickM k kind) (entM (resumeM zs satp va (hitM k.p va (asidM satp))).2.1 va satp (resumeM zs satp va (hitM k.p va (asidM satp))).2.2.1) pick) else ⟨k.i, k.d, ptrsM va satp pick (resumeM zs satp va (hitM k.p va (asidM satp))).2.2.2 k.p⟩) := by
    unfold tlbTransM
    rw [if_neg hb1, if_neg (by rw [hon]; decide)]
  rw [e] at h0 ⊢
  by_cases hc : canonM va = false
  · rw [if_pos hc] at h0
    exact absurd h0 (pageM_ne kind)
  · rw [if_neg hc] at h0 ⊢
    by_cases hh : (hitM (pickM k kind) va (asidM satp)).1 = true
    · rw [if_pos hh] at h0 ⊢
      unfold leafM at h0 ⊢
      by_cases hg : grantM (hitM (pickM k kind) va (asidM satp)).2.2.2 kind mode sum mxr = true
      · rw [if_pos hg]
        exact ⟨hh, hg, rfl⟩
      · rw [if_neg hg] at h0
        exact absurd h0 (pageM_ne kind)
    · rw [if_neg hh] at h0 ⊢
      generalize hr : resumeM zs satp va (hitM k.p va (asidM satp)) = r at h0 ⊢
      simp only at h0 ⊢
      obtain ⟨n2, n3, hg, hp⟩ := answer_leaf h0
      rw [if_pos h0]
      have hkind : kindM r.2.2.1 r.2.1 = 2 := by
        rw [← hr] at n2 n3 ⊢
        exact resume_kind n2 n3
      have hn : (hitM (pickM k kind) va (asidM satp)).1 = false := by simpa using hh
      have hi := hit_insert (pickM k kind) (entM r.2.1 va satp r.2.2.1) pick false va (asidM satp) gt (entM_good _ va satp _ false hkind) (entM_tag _ va satp _ false hkind) h3 hn (ent_fits _ _ _ _)
      have hpk : ∀ (kk : KM) (t : TlbM), pickM (putM kk kind t) kind = t := by
        intro kk t
        unfold putM pickM
        by_cases hz : kind = 0
        · rw [if_pos hz, if_pos hz]
        · rw [if_neg hz, if_neg hz]
      rw [hpk, hi]
      exact ⟨rfl, hg, hp⟩

end Go.Proofs.YthekickjjaleaacGreat
