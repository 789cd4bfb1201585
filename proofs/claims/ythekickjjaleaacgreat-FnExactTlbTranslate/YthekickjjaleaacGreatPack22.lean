import Derived.Test.YthekickjjaleaacGreatPack12
import Derived.Test.YthekickjjaleaacGreatPack19
import Derived.Test.YthekickjjaleaacGreatPack06
import Derived.Test.YthekickjjaleaacGreatPack20
import Derived.Test.YthekickjjaleaacGreatPack21
/- The specification's TlbTranslate: a hit. Written by mkwalk.py. -/
namespace Go.Proofs.YthekickjjaleaacGreat
open Go.RowKit
set_option linter.unusedVariables false
attribute [local go_sem ↓] Go.wp_at_zero Go.wp_at_succ

set_option maxRecDepth 20000 in
set_option maxHeartbeats 6400000 in
theorem specTrans_hitI (a : Option Addr) (len cap : Nat) (mode : Int) (sum mxr : Bool) (satp : Int) (v : Value) (k : KM) (kind va pick : Int) (w : World) (h : KAt w v k)
    (hgood : goodKM k = true) (h0 : 0 ≤ kind) (h1 : kind ≤ 2) (h2 : 0 ≤ mode) (h3 : mode ≤ 2) (h4 : 0 ≤ pick) (h5 : pick ≤ 255) (hs0 : 0 ≤ satp) (hs1 : satp ≤ 18446744073709551615) (hon : onM mode satp = true) (hk : kind = 0) (hv0 : 0 ≤ va) (hv1 : va ≤ 18446744073709551615) (hcan : canonM va = true) (hf : (hitM k.i va (asidM satp)).1 = true) (hp : 0 ≤ (hitM k.i va (asidM satp)).2.2.2 ∧ (hitM k.i va (asidM satp)).2.2.2 ≤ 18446744073709551615) (hlv : -9223372036854775808 ≤ (hitM k.i va (asidM satp)).2.2.1 ∧ (hitM k.i va (asidM satp)).2.2.1 ≤ 9223372036854775807) :
    Calls Tryz.prog 8 #[.slice a len cap, ctxV mode sum mxr satp, v, .int .i64 kind, .int .u64 va, .int .i64 pick] w fun e w' => (∃ x, e = .returned x ∧ TransOwn w.heap.size w' x (leafM (hitM k.i va (asidM satp)).2.2.2 (hitM k.i va (asidM satp)).2.2.1 mode sum mxr kind va, k)) ∧ Below w.heap.size w w' := by
  have HK : Hid (∀ u, Below w.heap.size w u → Calls Tryz.prog 38 #[v] u fun e w' => e = .returned (.bool (goodKM k)) ∧ Below u.heap.size u w') := fun u hu => l4GoodCaches_any v k u (h.keep hu)
  have HL : Hid (∀ u, Below w.heap.size w u → Calls Tryz.prog 39 #[v] u fun e w' => (∃ x, e = .returned x ∧ KOwn u.heap.size w' x k) ∧ Below u.heap.size u w') := fun u hu => l4Caches_any v k u (h.keep hu)
  have HO : Hid (∀ u, Calls Tryz.prog 40 #[ctxV mode sum mxr satp] u fun e w' => e = .returned (.bool true) ∧ Below u.heap.size u w') := fun u => by have := l3On_at mode sum mxr satp u hs0 hs1; rw [hon] at this; exact this
  have HC : Hid (∀ u : World, Calls Tryz.prog 41 #[.int .u64 va] u fun e w' => e = .returned (.bool true) ∧ Below u.heap.size u w') := fun u => by
    have := specCanonical_at va u hv0 hv1
    rw [hcan] at this
    refine this.mono ?_
    rintro e w' ⟨rfl, n, rfl⟩
    exact ⟨rfl, below_drewN (Below.refl _ _) n⟩
  have HKeep : Hid (KAt w v k) := h
  obtain ⟨a1, c1, a2, c2, a3, c3, rfl, T1, T2, T3⟩ := h
  have HLk : Hid (∀ u, Below w.heap.size w u → Calls Tryz.prog 43 #[.agg #[.int .i64 k.i.sets, .int .i64 k.i.ways, .slice a1 k.i.es.length c1], .int .u64 va, .int .u64 (asidM satp)] u fun e w' => e = .returned (.agg #[.bool (hitM k.i va (asidM satp)).1, .int .i64 (hitM k.i va (asidM satp)).2.1, .int .i64 (hitM k.i va (asidM satp)).2.2.1, .int .u64 (hitM k.i va (asidM satp)).2.2.2]) ∧ Below u.heap.size u w') := fun u hu => specLookup_any _ k.i va (asidM satp) u (T1.keep hu) hv0 hv1
  have HLf : Hid (∀ u, Calls Tryz.prog 45 #[.int .u64 (hitM k.i va (asidM satp)).2.2.2, .int .i64 (hitM k.i va (asidM satp)).2.2.1, ctxV mode sum mxr satp, .int .i64 kind, .int .u64 va] u fun e w' => e = .returned (transV (leafM (hitM k.i va (asidM satp)).2.2.2 (hitM k.i va (asidM satp)).2.2.1 mode sum mxr kind va)) ∧ Below u.heap.size u w') := fun u => l3Leaf_any _ _ mode sum mxr satp kind va u hp.1 hp.2 hv0 hv1 hlv.1 hlv.2
  have HA : Hid (∀ u : World, Calls Tryz.prog 44 #[.int .u64 satp] u fun e w' => e = .returned (.int .u64 (asidM satp)) ∧ Below u.heap.size u w') := fun u => by
    refine (l3Asid_at satp u hs0 hs1).mono ?_
    rintro e w' ⟨rfl, n, rfl⟩
    exact ⟨rfl, below_drewN (Below.refl _ _) n⟩
  generalize leafM (hitM k.i va (asidM satp)).2.2.2 (hitM k.i va (asidM satp)).2.2.1 mode sum mxr kind va = lf at HLf ⊢
  obtain ⟨lc, lp⟩ := lf
  rw [hf] at HLk
  generalize (hitM k.i va (asidM satp)).2.2.2 = pt at HLk HLf hp
  generalize (hitM k.i va (asidM satp)).2.2.1 = lv at HLk HLf hlv
  generalize (hitM k.i va (asidM satp)).2.1 = ix at HLk
  unfold transV ctxV at HLf
  simp only at HLf
  clear hcan hf HKeep T1 T2 T3
  generalize asidM satp = asd at HLk HA
  rw [hgood] at HK
  clear hgood hon
  subst hk
  have n1 : Below w.heap.size w (((w.alloc (Obj.cells #[.int .i64 mode, .bool sum, .bool mxr, .int .u64 satp] 41)).alloc (Obj.cells #[.int .i64 k.i.sets, .int .i64 k.i.ways, .slice a1 k.i.es.length c1, .int .i64 k.d.sets, .int .i64 k.d.ways, .slice a2 k.d.es.length c2, .int .i64 k.p.sets, .int .i64 k.p.ways, .slice a3 k.p.es.length c3] 36)).alloc (Obj.cells #[.int .i64 0, .int .u64 0, .int .i64 0, .int .i64 0, .slice none 0 0, .int .i64 0, .int .i64 0, .slice none 0 0, .int .i64 0, .int .i64 0, .slice none 0 0] 38)) := (((Below.refl w.heap.size w).alloc (Nat.le_refl _) _).alloc (by simp) _).alloc (by simp; omega) _
  have H1 : Hid ((((w.alloc (Obj.cells #[.int .i64 mode, .bool sum, .bool mxr, .int .u64 satp] 41)).alloc (Obj.cells #[.int .i64 k.i.sets, .int .i64 k.i.ways, .slice a1 k.i.es.length c1, .int .i64 k.d.sets, .int .i64 k.d.ways, .slice a2 k.d.es.length c2, .int .i64 k.p.sets, .int .i64 k.p.ways, .slice a3 k.p.es.length c3] 36)).alloc (Obj.cells #[.int .i64 0, .int .u64 0, .int .i64 0, .int .i64 0, .slice none 0 0, .int .i64 0, .int .i64 0, .slice none 0 0, .int .i64 0, .int .i64 0, .slice none 0 0] 38)).heap[w.heap.size]? = some (.cells #[.int .i64 mode, .bool sum, .bool mxr, .int .u64 satp] 41 (0, 0))) := by
    show _ = _
    rw [heap_alloc_old _ _ (by simp; omega), heap_alloc_old _ _ (by simp)]
    exact heap_alloc_new w _
  have H2 : Hid ((((w.alloc (Obj.cells #[.int .i64 mode, .bool sum, .bool mxr, .int .u64 satp] 41)).alloc (Obj.cells #[.int .i64 k.i.sets, .int .i64 k.i.ways, .slice a1 k.i.es.length c1, .int .i64 k.d.sets, .int .i64 k.d.ways, .slice a2 k.d.es.length c2, .int .i64 k.p.sets, .int .i64 k.p.ways, .slice a3 k.p.es.length c3] 36)).alloc (Obj.cells #[.int .i64 0, .int .u64 0, .int .i64 0, .int .i64 0, .slice none 0 0, .int .i64 0, .int .i64 0, .slice none 0 0, .int .i64 0, .int .i64 0, .slice none 0 0] 38)).heap[w.heap.size + 1]? = some (.cells #[.int .i64 k.i.sets, .int .i64 k.i.ways, .slice a1 k.i.es.length c1, .int .i64 k.d.sets, .int .i64 k.d.ways, .slice a2 k.d.es.length c2, .int .i64 k.p.sets, .int .i64 k.p.ways, .slice a3 k.p.es.length c3] 36 (0, 0))) := by
    show _ = _
    rw [heap_alloc_old _ _ (by simp)]
    have := heap_alloc_new (w.alloc (Obj.cells #[.int .i64 mode, .bool sum, .bool mxr, .int .u64 satp] 41)) (Obj.cells #[.int .i64 k.i.sets, .int .i64 k.i.ways, .slice a1 k.i.es.length c1, .int .i64 k.d.sets, .int .i64 k.d.ways, .slice a2 k.d.es.length c2, .int .i64 k.p.sets, .int .i64 k.p.ways, .slice a3 k.p.es.length c3] 36)
    simp only [World.size_alloc] at this
    exact this
  have H3 : Hid ((((w.alloc (Obj.cells #[.int .i64 mode, .bool sum, .bool mxr, .int .u64 satp] 41)).alloc (Obj.cells #[.int .i64 k.i.sets, .int .i64 k.i.ways, .slice a1 k.i.es.length c1, .int .i64 k.d.sets, .int .i64 k.d.ways, .slice a2 k.d.es.length c2, .int .i64 k.p.sets, .int .i64 k.p.ways, .slice a3 k.p.es.length c3] 36)).alloc (Obj.cells #[.int .i64 0, .int .u64 0, .int .i64 0, .int .i64 0, .slice none 0 0, .int .i64 0, .int .i64 0, .slice none 0 0, .int .i64 0, .int .i64 0, .slice none 0 0] 38)).heap[w.heap.size + 1 + 1]? = some (.cells #[.int .i64 0, .int .u64 0, .int .i64 0, .int .i64 0, .slice none 0 0, .int .i64 0, .int .i64 0, .slice none 0 0, .int .i64 0, .int .i64 0, .slice none 0 0] 38 (0, 0))) := by
    have := heap_alloc_new ((w.alloc (Obj.cells #[.int .i64 mode, .bool sum, .bool mxr, .int .u64 satp] 41)).alloc (Obj.cells #[.int .i64 k.i.sets, .int .i64 k.i.ways, .slice a1 k.i.es.length c1, .int .i64 k.d.sets, .int .i64 k.d.ways, .slice a2 k.d.es.length c2, .int .i64 k.p.sets, .int .i64 k.p.ways, .slice a3 k.p.es.length c3] 36)) (Obj.cells #[.int .i64 0, .int .u64 0, .int .i64 0, .int .i64 0, .slice none 0 0, .int .i64 0, .int .i64 0, .slice none 0 0, .int .i64 0, .int .i64 0, .slice none 0 0] 38)
    simp only [World.size_alloc] at this
    exact this
  have l1 : w.heap.size + 1 + 1 < (((w.alloc (Obj.cells #[.int .i64 mode, .bool sum, .bool mxr, .int .u64 satp] 41)).alloc (Obj.cells #[.int .i64 k.i.sets, .int .i64 k.i.ways, .slice a1 k.i.es.length c1, .int .i64 k.d.sets, .int .i64 k.d.ways, .slice a2 k.d.es.length c2, .int .i64 k.p.sets, .int .i64 k.p.ways, .slice a3 k.p.es.length c3] 36)).alloc (Obj.cells #[.int .i64 0, .int .u64 0, .int .i64 0, .int .i64 0, .slice none 0 0, .int .i64 0, .int .i64 0, .slice none 0 0, .int .i64 0, .int .i64 0, .slice none 0 0] 38)).heap.size := by simp
  unfold ctxV at HO ⊢
  go_enter Tryz.func8, Tryz.ntmps8
  go_upto_region 1 with fail
  generalize (((w.alloc (Obj.cells #[.int .i64 mode, .bool sum, .bool mxr, .int .u64 satp] 41)).alloc (Obj.cells #[.int .i64 k.i.sets, .int .i64 k.i.ways, .slice a1 k.i.es.length c1, .int .i64 k.d.sets, .int .i64 k.d.ways, .slice a2 k.d.es.length c2, .int .i64 k.p.sets, .int .i64 k.p.ways, .slice a3 k.p.es.length c3] 36)).alloc (Obj.cells #[.int .i64 0, .int .u64 0, .int .i64 0, .int .i64 0, .slice none 0 0, .int .i64 0, .int .i64 0, .slice none 0 0, .int .i64 0, .int .i64 0, .slice none 0 0] 38)) = v1 at n1 H1 H2 H3 l1 ⊢
  obtain ⟨⟨d0, d1, d2, d3⟩, _⟩ := four_cells H1.out
  obtain ⟨b0, b1, b2, b3, b4, b5, b6, b7, b8⟩ := nine_cells H2.out
  go_cut [49] (fun s49 wx => s49 = .bool false ∧ Below v1.heap.size v1 wx)
  case first =>
    go_wp2_with fail
    refine (HK.out v1 n1).mono ?_
    rintro e v2 ⟨rfl, n2⟩
    obtain ⟨⟨d0, d1, d2, d3⟩, _⟩ := four_cells (hid_keep H1 n2).out
    go_wp2_with fail
    go_meet
    refine ⟨?_, n2⟩
    simp
    try omega
  obtain ⟨rfl, n2⟩ := hcut
  generalize wc = v2 at n2 ⊢
  have l2 := n2.size
  have n12 := Below.step n1 n2 (Nat.le_refl _)
  have K1 := hid_keep H1 n2
  have K2 := hid_keep H2 n2
  have K3 := hid_keep H3 n2
  clear d0 d1 d2 d3 b0 b1 b2 b3 b4 b5 b6 b7 b8
  obtain ⟨⟨d0, d1, d2, d3⟩, _⟩ := four_cells K1.out
  obtain ⟨b0, b1, b2, b3, b4, b5, b6, b7, b8⟩ := nine_cells K2.out
  have s0 : w.heap.size + 1 + 1 < v2.heap.size := by omega
  clear n1 n2 H1 H2 H3
  go_wp2_with fail
  refine (HL.out v2 n12).mono ?_
  rintro e v3 ⟨⟨x, rfl, g1, e1, g2, e2, g3, e3, rfl, o1, o2, o3⟩, n3⟩
  have l3 := n3.size
  have n13 := Below.step n12 n3 (Nat.le_refl _)
  have P1 := hid_keep K1 n3
  have P2 := hid_keep K2 n3
  have P3 := hid_keep K3 n3
  have O1 : Hid _ := o1
  have O2 : Hid _ := o2
  have O3 : Hid _ := o3
  clear o1 o2 o3 n12 n3 K1 K2 K3 d0 d1 d2 d3 b0 b1 b2 b3 b4 b5 b6 b7 b8
  obtain ⟨⟨d0, d1, d2, d3⟩, _⟩ := four_cells P1.out
  have t0 : w.heap.size < v3.heap.size := by omega
  have t1 : w.heap.size + 1 < v3.heap.size := by omega
  have t2 : w.heap.size + 1 + 1 < v3.heap.size := by omega
  go_wp2_with fail
  have n4 := (Below.refl v3.heap.size v3).alloc (Nat.le_refl _) (Obj.cells #[.int .i64 0, .int .u64 0, .int .i64 k.i.sets, .int .i64 k.i.ways, .slice (some ⟨g1, 0, none⟩) k.i.es.length e1, .int .i64 k.d.sets, .int .i64 k.d.ways, .slice (some ⟨g2, 0, none⟩) k.d.es.length e2, .int .i64 k.p.sets, .int .i64 k.p.ways, .slice (some ⟨g3, 0, none⟩) k.p.es.length e3] 38)
  have H4 : Hid ((v3.alloc (Obj.cells #[.int .i64 0, .int .u64 0, .int .i64 k.i.sets, .int .i64 k.i.ways, .slice (some ⟨g1, 0, none⟩) k.i.es.length e1, .int .i64 k.d.sets, .int .i64 k.d.ways, .slice (some ⟨g2, 0, none⟩) k.d.es.length e2, .int .i64 k.p.sets, .int .i64 k.p.ways, .slice (some ⟨g3, 0, none⟩) k.p.es.length e3] 38)).heap[v3.heap.size]? = some (.cells #[.int .i64 0, .int .u64 0, .int .i64 k.i.sets, .int .i64 k.i.ways, .slice (some ⟨g1, 0, none⟩) k.i.es.length e1, .int .i64 k.d.sets, .int .i64 k.d.ways, .slice (some ⟨g2, 0, none⟩) k.d.es.length e2, .int .i64 k.p.sets, .int .i64 k.p.ways, .slice (some ⟨g3, 0, none⟩) k.p.es.length e3] 38 (0, 0))) := heap_alloc_new v3 _
  have l4 : v3.heap.size < (v3.alloc (Obj.cells #[.int .i64 0, .int .u64 0, .int .i64 k.i.sets, .int .i64 k.i.ways, .slice (some ⟨g1, 0, none⟩) k.i.es.length e1, .int .i64 k.d.sets, .int .i64 k.d.ways, .slice (some ⟨g2, 0, none⟩) k.d.es.length e2, .int .i64 k.p.sets, .int .i64 k.p.ways, .slice (some ⟨g3, 0, none⟩) k.p.es.length e3] 38)).heap.size := by simp
  generalize v3.alloc (Obj.cells #[.int .i64 0, .int .u64 0, .int .i64 k.i.sets, .int .i64 k.i.ways, .slice (some ⟨g1, 0, none⟩) k.i.es.length e1, .int .i64 k.d.sets, .int .i64 k.d.ways, .slice (some ⟨g2, 0, none⟩) k.d.es.length e2, .int .i64 k.p.sets, .int .i64 k.p.ways, .slice (some ⟨g3, 0, none⟩) k.p.es.length e3] 38) = v4 at n4 H4 l4 ⊢
  refine (HO.out v4).mono ?_
  rintro e v5 ⟨rfl, n5⟩
  have l5 := n5.size
  have n45 := Below.step n4 n5 (Nat.le_refl _)
  have n15 := Below.step n13 n45 (Nat.le_refl _)
  have Q1 := hid_keep P1 n45
  have Q2 := hid_keep P2 n45
  have Q3 := hid_keep P3 n45
  have Q4 := hid_keep H4 n5
  have U1 := own_below O1.out n45
  have U2 := own_below O2.out n45
  have U3 := own_below O3.out n45
  have a1' := own_at O1.out
  have a2' := own_at O2.out
  have a3' := own_at O3.out
  have V1 : Hid _ := U1
  have V2 : Hid _ := U2
  have V3 : Hid _ := U3
  have A1 : Hid _ := a1'
  have A2 : Hid _ := a2'
  have A3 : Hid _ := a3'
  have LL : Hid (v2.heap.size ≤ v3.heap.size) := l3
  clear U1 U2 U3 a1' a2' a3' O1 O2 O3 n4 n5 P1 P2 P3 H4 d0 d1 d2 d3
  go_wp2_with fail
  refine (HC.out v5).mono ?_
  rintro e v6 ⟨rfl, n6⟩
  have l6 := n6.size
  have n16 := Below.step n15 n6 (Nat.le_refl _)
  have R1 := hid_keep Q1 n6
  have R2 := hid_keep Q2 n6
  have R3 := hid_keep Q3 n6
  have R4 := hid_keep Q4 n6
  have W1 : Hid _ := own_below V1.out n6
  have W2 : Hid _ := own_below V2.out n6
  have W3 : Hid _ := own_below V3.out n6
  clear n6 n15 V1 V2 V3 Q1 Q2 Q3 Q4
  obtain ⟨⟨d0, d1, d2, d3⟩, _⟩ := four_cells R1.out
  obtain ⟨b0, b1, b2, b3, b4, b5, b6, b7, b8⟩ := nine_cells R2.out
  have s6 : w.heap.size < v6.heap.size := by omega
  have s7 : w.heap.size + 1 < v6.heap.size := by omega
  have nk1 : v6.heap.size ≠ w.heap.size := by omega
  have nk2 : w.heap.size ≠ v6.heap.size := by omega
  have nk3 : w.heap.size + 1 ≠ v6.heap.size := by omega
  have nk4 : v6.heap.size ≠ w.heap.size + 1 := by omega
  go_wp2_with fail
  have n7 : Below v6.heap.size v6 (v6.alloc (Obj.cells #[.int .i64 k.i.sets, .int .i64 k.i.ways, .slice a1 k.i.es.length c1] 34)) := (Below.refl v6.heap.size v6).alloc (Nat.le_refl _) _
  have H7 : Hid ((v6.alloc (Obj.cells #[.int .i64 k.i.sets, .int .i64 k.i.ways, .slice a1 k.i.es.length c1] 34)).heap[v6.heap.size]? = some (.cells #[.int .i64 k.i.sets, .int .i64 k.i.ways, .slice a1 k.i.es.length c1] 34 (0, 0))) := heap_alloc_new v6 _
  have l7 : v6.heap.size < (v6.alloc (Obj.cells #[.int .i64 k.i.sets, .int .i64 k.i.ways, .slice a1 k.i.es.length c1] 34)).heap.size := by simp
  generalize v6.alloc (Obj.cells #[.int .i64 k.i.sets, .int .i64 k.i.ways, .slice a1 k.i.es.length c1] 34) = v7 at n7 H7 l7 ⊢
  have n17 := Below.step n16 n7 (Nat.le_refl _)
  have S1 := hid_keep R1 n7
  have S3 := hid_keep R3 n7
  have S4 := hid_keep R4 n7
  have X1 : Hid _ := own_below W1.out n7
  have X2 : Hid _ := own_below W2.out n7
  have X3 : Hid _ := own_below W3.out n7
  clear W1 W2 W3 R1 R2 R3 R4 b0 b1 b2 b3 b4 b5 b6 b7 b8 d0 d1 d2 d3
  have l6' : v6.heap.size < v7.heap.size := l7
  have HX : Hid (∀ w', Below v7.heap.size v7 w' → w'.cell? ⟨v6.heap.size, 0, none⟩ = some (.int .i64 k.i.sets) ∧ w'.cell? ⟨v6.heap.size, 1, none⟩ = some (.int .i64 k.i.ways) ∧ w'.cell? ⟨v6.heap.size, 2, none⟩ = some (.slice a1 k.i.es.length c1) ∧ w'.cell? ⟨w.heap.size, 3, none⟩ = some (.int .u64 satp)) := fun v hv => by
    obtain ⟨⟨q0, q1, q2⟩, _⟩ := three_cells (heap_keep H7.out hv l7)
    obtain ⟨⟨_, _, _, q3⟩, _⟩ := four_cells (heap_keep S1.out hv (by omega))
    exact ⟨q0, q1, q2, q3⟩
  obtain ⟨c70, c71, c72, c73⟩ := HX.out v7 (Below.refl _ _)
  have nv1 : v7.heap.size ≠ w.heap.size := by omega
  have nv2 : w.heap.size ≠ v7.heap.size := by omega
  have nv3 : v7.heap.size ≠ v6.heap.size := by omega
  have nv4 : v6.heap.size ≠ v7.heap.size := by omega
  refine wp_region_new 6 15 ?_ _ _ (Obj.cells #[.bool false, .int .i64 0, .int .i64 0, .int .u64 0] 85) (by kernel_rfl) (by kernel_rfl) rfl rfl rfl (fun b w => by kernel_rfl) (by kernel_rfl) ?h13 ?q13
  case h13 =>
    intro w0 hw0
    have ne := lies_some w0
    have l0 := hw0.size
    obtain ⟨q0, q1, q2, q3⟩ := HX.out w0 hw0
    have y0 := lies_cell q0 (show v6.heap.size < w0.heap.size by omega)
    have y1 := lies_cell q1 (show v6.heap.size < w0.heap.size by omega)
    have y2 := lies_cell q2 (show v6.heap.size < w0.heap.size by omega)
    have y3 := lies_cell q3 (show w.heap.size < w0.heap.size by omega)
    clear q0 q1 q2 q3
    simp only [List.take_succ_cons, List.take_zero]
    repeat (go_big_quiet_step (first
      | (go_at_call 44; exact lies_quiet _ (HA.out _))
      | (go_at_call 43; exact lies_quiet _ (HLk.out _ (Below.step n17 (Below.step hw0 (Lies.h _) (Nat.le_refl _)) (Nat.le_refl _))))))
    refine wpQuiet_nil ?_
    exact rfl
  case q13 =>
    intro pb v8z hpb m8z hE8
    have E8z : Hid (v8z.heap[pb]? = some (.cells #[.bool false, .int .i64 0, .int .i64 0, .int .u64 0] 85 (0, 0))) := hE8
    have lh : pb < v8z.heap.size := (Array.getElem?_eq_some_iff.1 hE8).1
    clear hE8 c70 c71 c72 c73
    obtain ⟨⟨h0', h1', h2', h3'⟩, f0, f1, f2, f3⟩ := four_cells E8z.out
    go_upto_if 80 with fail
    have m8 := bel4 m8z hpb (Value.bool true) (Value.int .i64 ix) (Value.int .i64 lv) (Value.int .u64 pt)
    have E8 : Hid (((((v8z.setCell ⟨pb, 0, none⟩ (Value.bool true)).setCell ⟨pb, 1, none⟩ (Value.int .i64 ix)).setCell ⟨pb, 2, none⟩ (Value.int .i64 lv)).setCell ⟨pb, 3, none⟩ (Value.int .u64 pt)).heap[pb]? = some (.cells #[.bool true, .int .i64 ix, .int .i64 lv, .int .u64 pt] 85 (0, 0))) := four_putW E8z.out
    generalize ((((v8z.setCell ⟨pb, 0, none⟩ (Value.bool true)).setCell ⟨pb, 1, none⟩ (Value.int .i64 ix)).setCell ⟨pb, 2, none⟩ (Value.int .i64 lv)).setCell ⟨pb, 3, none⟩ (Value.int .u64 pt)) = v8 at m8 E8 ⊢
    clear h0' h1' h2' h3' f0 f1 f2 f3 E8z m8z lh
    have n18 := Below.step n17 m8 (Nat.le_refl _)
    have l8 := m8.size
    have R1 := hid_keep S1 m8
    have R3 := hid_keep S3 m8
    have R4 := hid_keep S4 m8
    have W1 : Hid _ := own_below X1.out m8
    have W2 : Hid _ := own_below X2.out m8
    have W3 : Hid _ := own_below X3.out m8
    clear m8 n17 X1 X2 X3 S1 S3 S4 H7 HX
    obtain ⟨⟨d0, d1, d2, d3⟩, _⟩ := four_cells R1.out
    obtain ⟨⟨h0, h1, h2, h3⟩, _⟩ := four_cells E8.out
    go_wp2_with fail
    refine (HLf.out v8).mono ?_
    rintro e v9 ⟨rfl, n9⟩
    have U3 := hid_keep R3 n9
    have U4 := hid_keep R4 n9
    have l9 := n9.size
    have Y1 : Hid _ := own_below W1.out n9
    have Y2 : Hid _ := own_below W2.out n9
    have Y3 : Hid _ := own_below W3.out n9
    have n19 := Below.step n18 n9 (Nat.le_refl _)
    clear d0 d1 d2 d3 h0 h1 h2 h3
    have ll1 : w.heap.size + 1 + 1 < v9.heap.size := by omega
    have ll2 : v3.heap.size < v9.heap.size := by omega
    have ll3 : v9.heap.size ≠ v3.heap.size := by omega
    have ll4 : v9.heap.size ≠ w.heap.size + 1 + 1 := by omega
    obtain ⟨j0, j1, j2, j3, j4, j5, j6, j7, j8, j9, j10⟩ := eleven_cells U3.out
    obtain ⟨m0, m1, m2, m3, m4, m5, m6, m7, m8, m9, m10⟩ := eleven_cells U4.out
    have ff := eleven_free U3.out
    have f0 := ff 0; have f1 := ff 1; have f2 := ff 2; have f3 := ff 3; have f4 := ff 4; have f5 := ff 5; have f6 := ff 6; have f7 := ff 7; have f8 := ff 8; have f9 := ff 9; have f10 := ff 10
    have gg := eleven_free U4.out
    have g0' := gg 0; have g1' := gg 1
    clear ff gg
    have ne1 : v3.heap.size ≠ w.heap.size + 1 + 1 := by omega
    have ne2 : w.heap.size + 1 + 1 ≠ v3.heap.size := by omega
    go_wp2_with fail
    obtain ⟨_, z1, z1'⟩ := A1.out
    obtain ⟨_, z2, z2'⟩ := A2.out
    obtain ⟨_, z3, z3'⟩ := A3.out
    have l3' := LL.out
    have gO := gb_set (gb_set (gb_refl v9 (some v3.heap.size)) 0 (Value.int .i64 lc)) 1 (Value.int .u64 lp)
    refine bodyPost_ret (v := .agg #[.int .i64 lc, .int .u64 lp, .int .i64 k.i.sets, .int .i64 k.i.ways, .slice (some ⟨g1, 0, none⟩) k.i.es.length e1, .int .i64 k.d.sets, .int .i64 k.d.ways, .slice (some ⟨g2, 0, none⟩) k.d.es.length e2, .int .i64 k.p.sets, .int .i64 k.p.ways, .slice (some ⟨g3, 0, none⟩) k.p.es.length e3]) (by simp [results, Tryz.results8, go_sem, j0, j1, j2, j3, j4, j5, j6, j7, j8, j9, j10, ll1]) rfl
      ⟨⟨_, rfl, _, _, _, rfl, own_low (own_below (own_gbn (own_gbn Y1.out gO (by omega)) (gb11 _ (w.heap.size + 1 + 1) _ _ _ _ _ _ _ _ _ _ _) (by omega)) ((Below.refl _ _).alloc (Nat.le_refl _) _)) (by omega), own_low (own_below (own_gbn (own_gbn Y2.out gO (by omega)) (gb11 _ (w.heap.size + 1 + 1) _ _ _ _ _ _ _ _ _ _ _) (by omega)) ((Below.refl _ _).alloc (Nat.le_refl _) _)) (by omega), own_low (own_below (own_gbn (own_gbn Y3.out gO (by omega)) (gb11 _ (w.heap.size + 1 + 1) _ _ _ _ _ _ _ _ _ _ _) (by omega)) ((Below.refl _ _).alloc (Nat.le_refl _) _)) (by omega)⟩, Below.alloc (bel11 ((n19.setCell (p := ⟨v3.heap.size, 0, none⟩) (by simp only; omega) _).setCell (p := ⟨v3.heap.size, 1, none⟩) (by simp only; omega) _) (by omega) _ _ _ _ _ _ _ _ _ _ _) (by simp; omega) _⟩

end Go.Proofs.YthekickjjaleaacGreat

/- The specification's TlbTranslate: an address that is not canonical. Written by mktrans.py. -/
namespace Go.Proofs.YthekickjjaleaacGreat
open Go.RowKit
set_option linter.unusedVariables false
attribute [local go_sem ↓] Go.wp_at_zero Go.wp_at_succ

set_option maxRecDepth 20000 in
set_option maxHeartbeats 6400000 in
theorem specTrans_fault (a : Option Addr) (len cap : Nat) (mode : Int) (sum mxr : Bool) (satp : Int) (v : Value) (k : KM) (kind va pick : Int) (w : World) (h : KAt w v k)
    (hgood : goodKM k = true) (h0 : 0 ≤ kind) (h1 : kind ≤ 2) (h2 : 0 ≤ mode) (h3 : mode ≤ 2) (h4 : 0 ≤ pick) (h5 : pick ≤ 255) (hs0 : 0 ≤ satp) (hs1 : satp ≤ 18446744073709551615) (hon : onM mode satp = true) (hv0 : 0 ≤ va) (hv1 : va ≤ 18446744073709551615) (hcan : canonM va = false) :
    Calls Tryz.prog 8 #[.slice a len cap, ctxV mode sum mxr satp, v, .int .i64 kind, .int .u64 va, .int .i64 pick] w fun e w' => (∃ x, e = .returned x ∧ TransOwn w.heap.size w' x ((pageM kind, 0), k)) ∧ Below w.heap.size w w' := by
  have HK : Hid (∀ u, Below w.heap.size w u → Calls Tryz.prog 38 #[v] u fun e w' => e = .returned (.bool (goodKM k)) ∧ Below u.heap.size u w') := fun u hu => l4GoodCaches_any v k u (h.keep hu)
  have HL : Hid (∀ u, Below w.heap.size w u → Calls Tryz.prog 39 #[v] u fun e w' => (∃ x, e = .returned x ∧ KOwn u.heap.size w' x k) ∧ Below u.heap.size u w') := fun u hu => l4Caches_any v k u (h.keep hu)
  have HO : Hid (∀ u, Calls Tryz.prog 40 #[ctxV mode sum mxr satp] u fun e w' => e = .returned (.bool true) ∧ Below u.heap.size u w') := fun u => by have := l3On_at mode sum mxr satp u hs0 hs1; rw [hon] at this; exact this
  have HC : Hid (∀ u : World, Calls Tryz.prog 41 #[.int .u64 va] u fun e w' => e = .returned (.bool false) ∧ Below u.heap.size u w') := fun u => by
    have := specCanonical_at va u hv0 hv1
    rw [hcan] at this
    refine this.mono ?_
    rintro e w' ⟨rfl, n, rfl⟩
    exact ⟨rfl, below_drewN (Below.refl _ _) n⟩
  obtain ⟨a1, c1, a2, c2, a3, c3, rfl, _⟩ := h
  clear hcan
  have HF : Hid (∀ u : World, Calls Tryz.prog 42 #[.int .i64 kind] u fun e w' => e = .returned (.int .i64 (pageM kind)) ∧ w' = u) := fun u => l3PageFault_at kind u
  generalize pageM kind = pf at HF ⊢
  rw [hgood] at HK
  clear hgood hon
  have n1 : Below w.heap.size w (((w.alloc (Obj.cells #[.int .i64 mode, .bool sum, .bool mxr, .int .u64 satp] 41)).alloc (Obj.cells #[.int .i64 k.i.sets, .int .i64 k.i.ways, .slice a1 k.i.es.length c1, .int .i64 k.d.sets, .int .i64 k.d.ways, .slice a2 k.d.es.length c2, .int .i64 k.p.sets, .int .i64 k.p.ways, .slice a3 k.p.es.length c3] 36)).alloc (Obj.cells #[.int .i64 0, .int .u64 0, .int .i64 0, .int .i64 0, .slice none 0 0, .int .i64 0, .int .i64 0, .slice none 0 0, .int .i64 0, .int .i64 0, .slice none 0 0] 38)) := (((Below.refl w.heap.size w).alloc (Nat.le_refl _) _).alloc (by simp) _).alloc (by simp; omega) _
  have H1 : Hid ((((w.alloc (Obj.cells #[.int .i64 mode, .bool sum, .bool mxr, .int .u64 satp] 41)).alloc (Obj.cells #[.int .i64 k.i.sets, .int .i64 k.i.ways, .slice a1 k.i.es.length c1, .int .i64 k.d.sets, .int .i64 k.d.ways, .slice a2 k.d.es.length c2, .int .i64 k.p.sets, .int .i64 k.p.ways, .slice a3 k.p.es.length c3] 36)).alloc (Obj.cells #[.int .i64 0, .int .u64 0, .int .i64 0, .int .i64 0, .slice none 0 0, .int .i64 0, .int .i64 0, .slice none 0 0, .int .i64 0, .int .i64 0, .slice none 0 0] 38)).heap[w.heap.size]? = some (.cells #[.int .i64 mode, .bool sum, .bool mxr, .int .u64 satp] 41 (0, 0))) := by
    show _ = _
    rw [heap_alloc_old _ _ (by simp; omega), heap_alloc_old _ _ (by simp)]
    exact heap_alloc_new w _
  have H2 : Hid ((((w.alloc (Obj.cells #[.int .i64 mode, .bool sum, .bool mxr, .int .u64 satp] 41)).alloc (Obj.cells #[.int .i64 k.i.sets, .int .i64 k.i.ways, .slice a1 k.i.es.length c1, .int .i64 k.d.sets, .int .i64 k.d.ways, .slice a2 k.d.es.length c2, .int .i64 k.p.sets, .int .i64 k.p.ways, .slice a3 k.p.es.length c3] 36)).alloc (Obj.cells #[.int .i64 0, .int .u64 0, .int .i64 0, .int .i64 0, .slice none 0 0, .int .i64 0, .int .i64 0, .slice none 0 0, .int .i64 0, .int .i64 0, .slice none 0 0] 38)).heap[w.heap.size + 1]? = some (.cells #[.int .i64 k.i.sets, .int .i64 k.i.ways, .slice a1 k.i.es.length c1, .int .i64 k.d.sets, .int .i64 k.d.ways, .slice a2 k.d.es.length c2, .int .i64 k.p.sets, .int .i64 k.p.ways, .slice a3 k.p.es.length c3] 36 (0, 0))) := by
    show _ = _
    rw [heap_alloc_old _ _ (by simp)]
    have := heap_alloc_new (w.alloc (Obj.cells #[.int .i64 mode, .bool sum, .bool mxr, .int .u64 satp] 41)) (Obj.cells #[.int .i64 k.i.sets, .int .i64 k.i.ways, .slice a1 k.i.es.length c1, .int .i64 k.d.sets, .int .i64 k.d.ways, .slice a2 k.d.es.length c2, .int .i64 k.p.sets, .int .i64 k.p.ways, .slice a3 k.p.es.length c3] 36)
    simp only [World.size_alloc] at this
    exact this
  have H3 : Hid ((((w.alloc (Obj.cells #[.int .i64 mode, .bool sum, .bool mxr, .int .u64 satp] 41)).alloc (Obj.cells #[.int .i64 k.i.sets, .int .i64 k.i.ways, .slice a1 k.i.es.length c1, .int .i64 k.d.sets, .int .i64 k.d.ways, .slice a2 k.d.es.length c2, .int .i64 k.p.sets, .int .i64 k.p.ways, .slice a3 k.p.es.length c3] 36)).alloc (Obj.cells #[.int .i64 0, .int .u64 0, .int .i64 0, .int .i64 0, .slice none 0 0, .int .i64 0, .int .i64 0, .slice none 0 0, .int .i64 0, .int .i64 0, .slice none 0 0] 38)).heap[w.heap.size + 1 + 1]? = some (.cells #[.int .i64 0, .int .u64 0, .int .i64 0, .int .i64 0, .slice none 0 0, .int .i64 0, .int .i64 0, .slice none 0 0, .int .i64 0, .int .i64 0, .slice none 0 0] 38 (0, 0))) := by
    have := heap_alloc_new ((w.alloc (Obj.cells #[.int .i64 mode, .bool sum, .bool mxr, .int .u64 satp] 41)).alloc (Obj.cells #[.int .i64 k.i.sets, .int .i64 k.i.ways, .slice a1 k.i.es.length c1, .int .i64 k.d.sets, .int .i64 k.d.ways, .slice a2 k.d.es.length c2, .int .i64 k.p.sets, .int .i64 k.p.ways, .slice a3 k.p.es.length c3] 36)) (Obj.cells #[.int .i64 0, .int .u64 0, .int .i64 0, .int .i64 0, .slice none 0 0, .int .i64 0, .int .i64 0, .slice none 0 0, .int .i64 0, .int .i64 0, .slice none 0 0] 38)
    simp only [World.size_alloc] at this
    exact this
  have l1 : w.heap.size + 1 + 1 < (((w.alloc (Obj.cells #[.int .i64 mode, .bool sum, .bool mxr, .int .u64 satp] 41)).alloc (Obj.cells #[.int .i64 k.i.sets, .int .i64 k.i.ways, .slice a1 k.i.es.length c1, .int .i64 k.d.sets, .int .i64 k.d.ways, .slice a2 k.d.es.length c2, .int .i64 k.p.sets, .int .i64 k.p.ways, .slice a3 k.p.es.length c3] 36)).alloc (Obj.cells #[.int .i64 0, .int .u64 0, .int .i64 0, .int .i64 0, .slice none 0 0, .int .i64 0, .int .i64 0, .slice none 0 0, .int .i64 0, .int .i64 0, .slice none 0 0] 38)).heap.size := by simp
  unfold ctxV at HO ⊢
  go_enter Tryz.func8, Tryz.ntmps8
  go_upto_region 1 with fail
  generalize (((w.alloc (Obj.cells #[.int .i64 mode, .bool sum, .bool mxr, .int .u64 satp] 41)).alloc (Obj.cells #[.int .i64 k.i.sets, .int .i64 k.i.ways, .slice a1 k.i.es.length c1, .int .i64 k.d.sets, .int .i64 k.d.ways, .slice a2 k.d.es.length c2, .int .i64 k.p.sets, .int .i64 k.p.ways, .slice a3 k.p.es.length c3] 36)).alloc (Obj.cells #[.int .i64 0, .int .u64 0, .int .i64 0, .int .i64 0, .slice none 0 0, .int .i64 0, .int .i64 0, .slice none 0 0, .int .i64 0, .int .i64 0, .slice none 0 0] 38)) = v1 at n1 H1 H2 H3 l1 ⊢
  obtain ⟨⟨d0, d1, d2, d3⟩, _⟩ := four_cells H1.out
  obtain ⟨b0, b1, b2, b3, b4, b5, b6, b7, b8⟩ := nine_cells H2.out
  go_cut [49] (fun s49 wx => s49 = .bool false ∧ Below v1.heap.size v1 wx)
  case first =>
    go_wp2_with fail
    refine (HK.out v1 n1).mono ?_
    rintro e v2 ⟨rfl, n2⟩
    obtain ⟨⟨d0, d1, d2, d3⟩, _⟩ := four_cells (hid_keep H1 n2).out
    go_wp2_with fail
    go_meet
    refine ⟨?_, n2⟩
    simp
    omega
  obtain ⟨rfl, n2⟩ := hcut
  generalize wc = v2 at n2 ⊢
  have l2 := n2.size
  have n12 := Below.step n1 n2 (Nat.le_refl _)
  have K1 := hid_keep H1 n2
  have K2 := hid_keep H2 n2
  have K3 := hid_keep H3 n2
  clear d0 d1 d2 d3 b0 b1 b2 b3 b4 b5 b6 b7 b8
  obtain ⟨⟨d0, d1, d2, d3⟩, _⟩ := four_cells K1.out
  obtain ⟨b0, b1, b2, b3, b4, b5, b6, b7, b8⟩ := nine_cells K2.out
  have s0 : w.heap.size + 1 + 1 < v2.heap.size := by omega
  clear n1 n2 H1 H2 H3
  go_wp2_with fail
  refine (HL.out v2 n12).mono ?_
  rintro e v3 ⟨⟨x, rfl, g1, e1, g2, e2, g3, e3, rfl, o1, o2, o3⟩, n3⟩
  have l3 := n3.size
  have n13 := Below.step n12 n3 (Nat.le_refl _)
  have P1 := hid_keep K1 n3
  have P2 := hid_keep K2 n3
  have P3 := hid_keep K3 n3
  have O1 : Hid _ := o1
  have O2 : Hid _ := o2
  have O3 : Hid _ := o3
  clear o1 o2 o3 n12 n3 K1 K2 K3 d0 d1 d2 d3 b0 b1 b2 b3 b4 b5 b6 b7 b8
  obtain ⟨⟨d0, d1, d2, d3⟩, _⟩ := four_cells P1.out
  have t0 : w.heap.size < v3.heap.size := by omega
  have t1 : w.heap.size + 1 < v3.heap.size := by omega
  have t2 : w.heap.size + 1 + 1 < v3.heap.size := by omega
  go_wp2_with fail
  have n4 := (Below.refl v3.heap.size v3).alloc (Nat.le_refl _) (Obj.cells #[.int .i64 0, .int .u64 0, .int .i64 k.i.sets, .int .i64 k.i.ways, .slice (some ⟨g1, 0, none⟩) k.i.es.length e1, .int .i64 k.d.sets, .int .i64 k.d.ways, .slice (some ⟨g2, 0, none⟩) k.d.es.length e2, .int .i64 k.p.sets, .int .i64 k.p.ways, .slice (some ⟨g3, 0, none⟩) k.p.es.length e3] 38)
  have H4 : Hid ((v3.alloc (Obj.cells #[.int .i64 0, .int .u64 0, .int .i64 k.i.sets, .int .i64 k.i.ways, .slice (some ⟨g1, 0, none⟩) k.i.es.length e1, .int .i64 k.d.sets, .int .i64 k.d.ways, .slice (some ⟨g2, 0, none⟩) k.d.es.length e2, .int .i64 k.p.sets, .int .i64 k.p.ways, .slice (some ⟨g3, 0, none⟩) k.p.es.length e3] 38)).heap[v3.heap.size]? = some (.cells #[.int .i64 0, .int .u64 0, .int .i64 k.i.sets, .int .i64 k.i.ways, .slice (some ⟨g1, 0, none⟩) k.i.es.length e1, .int .i64 k.d.sets, .int .i64 k.d.ways, .slice (some ⟨g2, 0, none⟩) k.d.es.length e2, .int .i64 k.p.sets, .int .i64 k.p.ways, .slice (some ⟨g3, 0, none⟩) k.p.es.length e3] 38 (0, 0))) := heap_alloc_new v3 _
  have l4 : v3.heap.size < (v3.alloc (Obj.cells #[.int .i64 0, .int .u64 0, .int .i64 k.i.sets, .int .i64 k.i.ways, .slice (some ⟨g1, 0, none⟩) k.i.es.length e1, .int .i64 k.d.sets, .int .i64 k.d.ways, .slice (some ⟨g2, 0, none⟩) k.d.es.length e2, .int .i64 k.p.sets, .int .i64 k.p.ways, .slice (some ⟨g3, 0, none⟩) k.p.es.length e3] 38)).heap.size := by simp
  generalize v3.alloc (Obj.cells #[.int .i64 0, .int .u64 0, .int .i64 k.i.sets, .int .i64 k.i.ways, .slice (some ⟨g1, 0, none⟩) k.i.es.length e1, .int .i64 k.d.sets, .int .i64 k.d.ways, .slice (some ⟨g2, 0, none⟩) k.d.es.length e2, .int .i64 k.p.sets, .int .i64 k.p.ways, .slice (some ⟨g3, 0, none⟩) k.p.es.length e3] 38) = v4 at n4 H4 l4 ⊢
  refine (HO.out v4).mono ?_
  rintro e v5 ⟨rfl, n5⟩
  have l5 := n5.size
  have n45 := Below.step n4 n5 (Nat.le_refl _)
  have n15 := Below.step n13 n45 (Nat.le_refl _)
  have Q1 := hid_keep P1 n45
  have Q2 := hid_keep P2 n45
  have Q3 := hid_keep P3 n45
  have Q4 := hid_keep H4 n5
  have U1 := own_below O1.out n45
  have U2 := own_below O2.out n45
  have U3 := own_below O3.out n45
  have a1' := own_at O1.out
  have a2' := own_at O2.out
  have a3' := own_at O3.out
  have V1 : Hid _ := U1
  have V2 : Hid _ := U2
  have V3 : Hid _ := U3
  have A1 : Hid _ := a1'
  have A2 : Hid _ := a2'
  have A3 : Hid _ := a3'
  have LL : Hid (v2.heap.size ≤ v3.heap.size) := l3
  clear U1 U2 U3 a1' a2' a3' O1 O2 O3 n4 n5 P1 P2 P3 H4 d0 d1 d2 d3
  go_wp2_with fail
  refine (HC.out v5).mono ?_
  rintro e v6 ⟨rfl, n6⟩
  have l6 := n6.size
  have n16 := Below.step n15 n6 (Nat.le_refl _)
  have R3 := hid_keep Q3 n6
  have R4 := hid_keep Q4 n6
  have W1 : Hid _ := own_below V1.out n6
  have W2 : Hid _ := own_below V2.out n6
  have W3 : Hid _ := own_below V3.out n6
  clear n6 n15 V1 V2 V3 Q1 Q2 Q3 Q4
  obtain ⟨j0, j1, j2, j3, j4, j5, j6, j7, j8, j9, j10⟩ := eleven_cells R3.out
  obtain ⟨m0, m1, m2, m3, m4, m5, m6, m7, m8, m9, m10⟩ := eleven_cells R4.out
  have ff := eleven_free R3.out
  have f0 := ff 0; have f1 := ff 1; have f2 := ff 2; have f3 := ff 3; have f4 := ff 4; have f5 := ff 5; have f6 := ff 6; have f7 := ff 7; have f8 := ff 8; have f9 := ff 9; have f10 := ff 10
  have gg := eleven_free R4.out
  have g0' := gg 0; have g1' := gg 1
  clear ff gg
  have ne1 : v3.heap.size ≠ w.heap.size + 1 + 1 := by omega
  have ne2 : w.heap.size + 1 + 1 ≠ v3.heap.size := by omega
  go_wp2_with fail
  refine (HF.out v6).mono ?_
  rintro e v7 ⟨rfl, rfl⟩
  go_wp2_with fail
  obtain ⟨_, z1, z1'⟩ := A1.out
  obtain ⟨_, z2, z2'⟩ := A2.out
  obtain ⟨_, z3, z3'⟩ := A3.out
  have gO := gb_set (gb_refl v7 (some v3.heap.size)) 0 (Value.int .i64 pf)
  refine bodyPost_ret (v := .agg #[.int .i64 pf, .int .u64 0, .int .i64 k.i.sets, .int .i64 k.i.ways, .slice (some ⟨g1, 0, none⟩) k.i.es.length e1, .int .i64 k.d.sets, .int .i64 k.d.ways, .slice (some ⟨g2, 0, none⟩) k.d.es.length e2, .int .i64 k.p.sets, .int .i64 k.p.ways, .slice (some ⟨g3, 0, none⟩) k.p.es.length e3]) (by simp [results, Tryz.results8, go_sem, j0, j1, j2, j3, j4, j5, j6, j7, j8, j9, j10]) rfl
    ⟨⟨_, rfl, _, _, _, rfl, own_low (own_gbn (own_gbn W1.out gO (by omega)) (gb11 _ (w.heap.size + 1 + 1) _ _ _ _ _ _ _ _ _ _ _) (by omega)) (by omega), own_low (own_gbn (own_gbn W2.out gO (by omega)) (gb11 _ (w.heap.size + 1 + 1) _ _ _ _ _ _ _ _ _ _ _) (by omega)) (by omega), own_low (own_gbn (own_gbn W3.out gO (by omega)) (gb11 _ (w.heap.size + 1 + 1) _ _ _ _ _ _ _ _ _ _ _) (by omega)) (by omega)⟩, bel11 (n16.setCell (p := ⟨v3.heap.size, 0, none⟩) (by simp only; omega) _) (by omega) _ _ _ _ _ _ _ _ _ _ _⟩

end Go.Proofs.YthekickjjaleaacGreat

/- The specification's TlbTranslate, whole. -/
namespace Go.Proofs.YthekickjjaleaacGreat
open Go.RowKit
set_option linter.unusedVariables false

theorem specTrans_any (a : Option Addr) (len cap : Nat) (zs : List Int) (mode : Int) (sum mxr : Bool) (satp : Int) (v : Value) (k : KM) (kind va pick : Int) (w : World) (h : KAt w v k) (hB : Byt w a len zs) (hlen : len ≤ 1048576) (hcap : len ≤ cap) (hcm : cap ≤ 9223372036854775807)
    (hv0 : 0 ≤ va) (hv1 : va ≤ 18446744073709551615) (hs0 : 0 ≤ satp) (hs1 : satp ≤ 18446744073709551615) :
    Calls Tryz.prog 8 #[.slice a len cap, ctxV mode sum mxr satp, v, .int .i64 kind, .int .u64 va, .int .i64 pick] w fun e w' => (∃ x, e = .returned x ∧ TransOwn w.heap.size w' x (tlbTransM zs mode sum mxr satp k kind va pick)) ∧ Below w.heap.size w w' := by
  have hko : tlbOk k.i ∧ tlbOk k.d := by
    obtain ⟨_, _, _, _, _, _, _, t1, t2, _⟩ := h
    exact ⟨TlbAt.ok t1, TlbAt.ok t2⟩
  unfold tlbTransM
  split
  · rename_i hbad
    exact specTrans_bad a len cap mode sum mxr satp v k kind va pick w h hbad
  · rename_i hbad
    have hgood : goodKM k = true := by
      cases hg : goodKM k
      · exact absurd (.inl hg) hbad
      · rfl
    have h0 : 0 ≤ kind := by omega
    have h1 : kind ≤ 2 := by omega
    have h2 : 0 ≤ mode := by omega
    have h3 : mode ≤ 2 := by omega
    have h4 : 0 ≤ pick := by omega
    have h5 : pick ≤ 255 := by omega
    split
    · rename_i hon
      exact specTrans_off a len cap mode sum mxr satp v k kind va pick w h hgood h0 h1 h2 h3 h4 h5 hs0 hs1 hon
    · rename_i hon
      have hon : onM mode satp = true := by simpa using hon
      split
      · rename_i hcan
        exact specTrans_fault a len cap mode sum mxr satp v k kind va pick w h hgood h0 h1 h2 h3 h4 h5 hs0 hs1 hon hv0 hv1 hcan
      · rename_i hcan
        have hcan : canonM va = true := by simpa using hcan
        by_cases hk : kind = 0
        · rw [show pickM k kind = k.i from if_pos hk]
          split
          · rename_i hf
            have hl := hit_lim k.i va (asidM satp) hko.1.1 hf
            exact specTrans_hitI a len cap mode sum mxr satp v k kind va pick w h hgood h0 h1 h2 h3 h4 h5 hs0 hs1 hon hk hv0 hv1 hcan hf hl.1 hl.2
          · rename_i hf
            have := specTrans_walkI a len cap mode sum mxr satp v k kind va pick w h hgood h0 h1 h2 h3 h4 h5 hs0 hs1 hon hk zs hB hlen hcap hcm hv0 hv1 hcan (by simpa using hf)
            unfold walkAnsM at this
            rw [show pickM k kind = k.i from if_pos hk] at this
            exact this
        · rw [show pickM k kind = k.d from if_neg hk]
          split
          · rename_i hf
            have hl := hit_lim k.d va (asidM satp) hko.2.1 hf
            exact specTrans_hitD a len cap mode sum mxr satp v k kind va pick w h hgood h0 h1 h2 h3 h4 h5 hs0 hs1 hon hk hv0 hv1 hcan hf hl.1 hl.2
          · rename_i hf
            have := specTrans_walkD a len cap mode sum mxr satp v k kind va pick w h hgood h0 h1 h2 h3 h4 h5 hs0 hs1 hon hk zs hB hlen hcap hcm hv0 hv1 hcan (by simpa using hf)
            unfold walkAnsM at this
            rw [show pickM k kind = k.d from if_neg hk] at this
            exact this

end Go.Proofs.YthekickjjaleaacGreat
