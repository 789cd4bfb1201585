import Derived.Test.YthekickjjaleaacGreatPack23
import Derived.Test.YthekickjjaleaacGreatPack28
import Derived.Test.YthekickjjaleaacGreatPack26
import Derived.Test.YthekickjjaleaacGreatPack11
import Derived.Test.YthekickjjaleaacGreatPack27
import Derived.Test.YthekickjjaleaacGreatPack25
import Derived.Test.YthekickjjaleaacGreatPack12
import Derived.Deep.RegionHeld3
import Derived.Test.YthekickjjaleaacGreatPack30
import Derived.Test.YthekickjjaleaacGreatPack29
import Derived.Deep.DeepCutAuto
import Derived.Test.YthekickjjaleaacGreatPack17
/- The program's cacheSetOf. -/
namespace Go.Proofs.YthekickjjaleaacGreat
open Go.RowKit
set_option linter.unusedVariables false

theorem cacheOfL_gen (v : Value) (t : TlbM) (w : World) (h : TlbAt w v t) :
    Calls Tryz.prog 101 #[v] w fun e w' => (∃ s y l n c, e = .returned (.tuple #[.agg #[.int .i64 s, .int .i64 y, .slice l n c], .bool (validM t false)]) ∧ (validM t false = true → ∃ g, s = t.sets ∧ y = t.ways ∧ l = some ⟨g, 0, none⟩ ∧ n = t.es.length ∧ c = t.es.length ∧ w'.ownsRow w.heap.size 211 6 (.slice (some ⟨g, 0, none⟩) t.es.length t.es.length) t.es.length (slotsC t.es))) ∧ Below w.heap.size w w' := by
  refine (cacheOfL_any v t w h).mono ?_
  rintro e w' ⟨hc, nb⟩
  refine ⟨?_, nb⟩
  cases hv : validM t false
  · rw [hv] at hc
    dsimp only [cond] at hc
    exact ⟨_, _, _, _, _, hc, fun h => by cases h⟩
  · rw [hv] at hc
    dsimp only [cond] at hc
    obtain ⟨g, he, ho⟩ := hc
    exact ⟨_, _, _, _, _, he, fun _ => ⟨g, rfl, rfl, rfl, rfl, rfl, ho⟩⟩

theorem cacheOfP_gen (v : Value) (t : TlbM) (w : World) (h : TlbAt w v t) :
    Calls Tryz.prog 102 #[v] w fun e w' => (∃ s y l n c, e = .returned (.tuple #[.agg #[.int .i64 s, .int .i64 y, .slice l n c], .bool (validM t true)]) ∧ (validM t true = true → ∃ g, s = t.sets ∧ y = t.ways ∧ l = some ⟨g, 0, none⟩ ∧ n = t.es.length ∧ c = t.es.length ∧ w'.ownsRow w.heap.size 257 6 (.slice (some ⟨g, 0, none⟩) t.es.length t.es.length) t.es.length (slotsC t.es))) ∧ Below w.heap.size w w' := by
  refine (cacheOfP_any v t w h).mono ?_
  rintro e w' ⟨hc, nb⟩
  refine ⟨?_, nb⟩
  cases hv : validM t true
  · rw [hv] at hc
    dsimp only [cond] at hc
    exact ⟨_, _, _, _, _, hc, fun h => by cases h⟩
  · rw [hv] at hc
    dsimp only [cond] at hc
    obtain ⟨g, he, ho⟩ := hc
    exact ⟨_, _, _, _, _, he, fun _ => ⟨g, rfl, rfl, rfl, rfl, rfl, ho⟩⟩

def SetAns (base : Nat) (w : World) (e : Ending) (k : KM) : Prop := ∃ gi gd gp, e = .returned (.tuple #[.agg (setC k gi gd gp), .bool true]) ∧ RowsAt w base gi gd gp k

set_option maxRecDepth 20000 in
set_option maxHeartbeats 3200000 in
theorem cacheSetOf_any (v : Value) (k : KM) (w : World) (h : KAt w v k) :
    Calls Tryz.prog 54 #[v] w fun e w' => cond (goodKM k) (SetAns w.heap.size w' e k) (e = .returned (.tuple #[.agg #[.int .i64 0, .int .i64 0, .slice none 0 0, .int .i64 0, .int .i64 0, .slice none 0 0, .int .i64 0, .int .i64 0, .slice none 0 0], .bool false])) ∧ Below w.heap.size w w' := by
  obtain ⟨a1, c1, a2, c2, a3, c3, rfl, T1, T2, T3⟩ := h
  obtain ⟨q1, hq1⟩ : ∃ q, validM k.i false = q := ⟨_, rfl⟩
  obtain ⟨q2, hq2⟩ : ∃ q, validM k.d false = q := ⟨_, rfl⟩
  obtain ⟨q3, hq3⟩ : ∃ q, validM k.p true = q := ⟨_, rfl⟩
  have HQ1 : Hid (validM k.i false = q1) := hq1
  have HQ2 : Hid (validM k.d false = q2) := hq2
  have HQ3 : Hid (validM k.p true = q3) := hq3
  have hgood : goodKM k = (q1 && q2 && q3) := by unfold goodKM; rw [hq1, hq2, hq3]
  rw [hgood]
  clear hgood hq1 hq2 hq3
  have HT1 : Hid (∀ u, Below w.heap.size w u → TlbAt u (.agg #[.int .i64 k.i.sets, .int .i64 k.i.ways, .slice a1 k.i.es.length c1]) k.i) := fun u hu => T1.keep hu
  have HT2 : Hid (∀ u, Below w.heap.size w u → TlbAt u (.agg #[.int .i64 k.d.sets, .int .i64 k.d.ways, .slice a2 k.d.es.length c2]) k.d) := fun u hu => T2.keep hu
  have HT3 : Hid (∀ u, Below w.heap.size w u → TlbAt u (.agg #[.int .i64 k.p.sets, .int .i64 k.p.ways, .slice a3 k.p.es.length c3]) k.p) := fun u hu => T3.keep hu
  clear T1 T2 T3
  have n1 := ((Below.refl w.heap.size w).alloc (Nat.le_refl _) (Obj.cells #[.int .i64 k.i.sets, .int .i64 k.i.ways, .slice a1 k.i.es.length c1, .int .i64 k.d.sets, .int .i64 k.d.ways, .slice a2 k.d.es.length c2, .int .i64 k.p.sets, .int .i64 k.p.ways, .slice a3 k.p.es.length c3] 36)).alloc (by simp) (Obj.cells #[.int .i64 0, .int .i64 0, .slice none 0 0, .int .i64 0, .int .i64 0, .slice none 0 0, .int .i64 0, .int .i64 0, .slice none 0 0] 112)
  have H1 : Hid (((w.alloc (Obj.cells #[.int .i64 k.i.sets, .int .i64 k.i.ways, .slice a1 k.i.es.length c1, .int .i64 k.d.sets, .int .i64 k.d.ways, .slice a2 k.d.es.length c2, .int .i64 k.p.sets, .int .i64 k.p.ways, .slice a3 k.p.es.length c3] 36)).alloc (Obj.cells #[.int .i64 0, .int .i64 0, .slice none 0 0, .int .i64 0, .int .i64 0, .slice none 0 0, .int .i64 0, .int .i64 0, .slice none 0 0] 112)).heap[w.heap.size]? = some (.cells #[.int .i64 k.i.sets, .int .i64 k.i.ways, .slice a1 k.i.es.length c1, .int .i64 k.d.sets, .int .i64 k.d.ways, .slice a2 k.d.es.length c2, .int .i64 k.p.sets, .int .i64 k.p.ways, .slice a3 k.p.es.length c3] 36 (0, 0))) := by
    show _ = _
    rw [heap_alloc_old _ _ (by simp)]
    exact heap_alloc_new w _
  have H2 : Hid (((w.alloc (Obj.cells #[.int .i64 k.i.sets, .int .i64 k.i.ways, .slice a1 k.i.es.length c1, .int .i64 k.d.sets, .int .i64 k.d.ways, .slice a2 k.d.es.length c2, .int .i64 k.p.sets, .int .i64 k.p.ways, .slice a3 k.p.es.length c3] 36)).alloc (Obj.cells #[.int .i64 0, .int .i64 0, .slice none 0 0, .int .i64 0, .int .i64 0, .slice none 0 0, .int .i64 0, .int .i64 0, .slice none 0 0] 112)).heap[w.heap.size + 1]? = some (.cells #[.int .i64 0, .int .i64 0, .slice none 0 0, .int .i64 0, .int .i64 0, .slice none 0 0, .int .i64 0, .int .i64 0, .slice none 0 0] 112 (0, 0))) := by
    have := heap_alloc_new (w.alloc (Obj.cells #[.int .i64 k.i.sets, .int .i64 k.i.ways, .slice a1 k.i.es.length c1, .int .i64 k.d.sets, .int .i64 k.d.ways, .slice a2 k.d.es.length c2, .int .i64 k.p.sets, .int .i64 k.p.ways, .slice a3 k.p.es.length c3] 36)) (Obj.cells #[.int .i64 0, .int .i64 0, .slice none 0 0, .int .i64 0, .int .i64 0, .slice none 0 0, .int .i64 0, .int .i64 0, .slice none 0 0] 112)
    simp only [World.size_alloc] at this
    exact this
  have l1 : ((w.alloc (Obj.cells #[.int .i64 k.i.sets, .int .i64 k.i.ways, .slice a1 k.i.es.length c1, .int .i64 k.d.sets, .int .i64 k.d.ways, .slice a2 k.d.es.length c2, .int .i64 k.p.sets, .int .i64 k.p.ways, .slice a3 k.p.es.length c3] 36)).alloc (Obj.cells #[.int .i64 0, .int .i64 0, .slice none 0 0, .int .i64 0, .int .i64 0, .slice none 0 0, .int .i64 0, .int .i64 0, .slice none 0 0] 112)).heap.size = w.heap.size + 2 := by simp
  go_enter Tryz.func54, Tryz.ntmps54
  go_wp2_with fail
  generalize ((w.alloc (Obj.cells #[.int .i64 k.i.sets, .int .i64 k.i.ways, .slice a1 k.i.es.length c1, .int .i64 k.d.sets, .int .i64 k.d.ways, .slice a2 k.d.es.length c2, .int .i64 k.p.sets, .int .i64 k.p.ways, .slice a3 k.p.es.length c3] 36)).alloc (Obj.cells #[.int .i64 0, .int .i64 0, .slice none 0 0, .int .i64 0, .int .i64 0, .slice none 0 0, .int .i64 0, .int .i64 0, .slice none 0 0] 112)) = u0 at n1 H1 H2 l1 ⊢
  have A1 := n1
  have I1 := H1
  have J1 := H2
  clear n1 H1 H2
  refine (cacheOfL_gen _ k.i u0 (HT1.out u0 A1)).mono ?_
  rw [HQ1.out]
  rintro e z1 ⟨⟨s1, y1, t1, x1, cc1, rfl, hv1⟩, nz1⟩
  have HV1 : Hid _ := hv1
  have m1 := nz1.alloc nz1.size (Obj.cells #[.int .i64 s1, .int .i64 y1, .slice t1 x1 cc1] 107)
  have mz1 := (Below.refl z1.heap.size z1).alloc (Nat.le_refl _) (Obj.cells #[.int .i64 s1, .int .i64 y1, .slice t1 x1 cc1] 107)
  have B11 : Hid ((z1.alloc (Obj.cells #[.int .i64 s1, .int .i64 y1, .slice t1 x1 cc1] 107)).heap[z1.heap.size]? = some (.cells #[.int .i64 s1, .int .i64 y1, .slice t1 x1 cc1] 107 (0, 0))) := heap_alloc_new z1 _
  have A2 := Below.step A1 m1 (Nat.le_refl _)
  have J2 := hid_keep J1 m1
  have I2 := hid_keep I1 m1
  have IZ1 := nine_cells (hid_keep I1 nz1).out
  have lz1 : w.heap.size < z1.heap.size := (Array.getElem?_eq_some_iff.1 (hid_keep I1 nz1).out).1
  have ls1 := nz1.size
  have lt1 : z1.heap.size < (z1.alloc (Obj.cells #[.int .i64 s1, .int .i64 y1, .slice t1 x1 cc1] 107)).heap.size := by simp
  obtain ⟨b0, b1, b2, b3, b4, b5, b6, b7, b8⟩ := IZ1
  clear hv1 nz1
  go_wp2_with fail
  generalize z1.alloc (Obj.cells #[.int .i64 s1, .int .i64 y1, .slice t1 x1 cc1] 107) = u1 at m1 mz1 B11 A2 J2 I2 lt1  ⊢
  clear b0 b1 b2 b3 b4 b5 b6 b7 b8
  refine (cacheOfL_gen _ k.d u1 (HT2.out u1 A2)).mono ?_
  rw [HQ2.out]
  rintro e z2 ⟨⟨s2, y2, t2, x2, cc2, rfl, hv2⟩, nz2⟩
  have HV2 : Hid _ := hv2
  have m2 := nz2.alloc nz2.size (Obj.cells #[.int .i64 s2, .int .i64 y2, .slice t2 x2 cc2] 107)
  have mz2 := (Below.refl z2.heap.size z2).alloc (Nat.le_refl _) (Obj.cells #[.int .i64 s2, .int .i64 y2, .slice t2 x2 cc2] 107)
  have B22 : Hid ((z2.alloc (Obj.cells #[.int .i64 s2, .int .i64 y2, .slice t2 x2 cc2] 107)).heap[z2.heap.size]? = some (.cells #[.int .i64 s2, .int .i64 y2, .slice t2 x2 cc2] 107 (0, 0))) := heap_alloc_new z2 _
  have A3 := Below.step A2 m2 (Nat.le_refl _)
  have J3 := hid_keep J2 m2
  have I3 := hid_keep I2 m2
  have B21 := hid_keep B11 m2
  have IZ2 := nine_cells (hid_keep I2 nz2).out
  have lz2 : w.heap.size < z2.heap.size := (Array.getElem?_eq_some_iff.1 (hid_keep I2 nz2).out).1
  have ls2 := nz2.size
  have lt2 : z2.heap.size < (z2.alloc (Obj.cells #[.int .i64 s2, .int .i64 y2, .slice t2 x2 cc2] 107)).heap.size := by simp
  obtain ⟨b0, b1, b2, b3, b4, b5, b6, b7, b8⟩ := IZ2
  clear hv2 nz2
  go_wp2_with fail
  generalize z2.alloc (Obj.cells #[.int .i64 s2, .int .i64 y2, .slice t2 x2 cc2] 107) = u2 at m2 mz2 B22 A3 J3 I3 lt2 B21 ⊢
  clear b0 b1 b2 b3 b4 b5 b6 b7 b8
  refine (cacheOfP_gen _ k.p u2 (HT3.out u2 A3)).mono ?_
  rw [HQ3.out]
  rintro e z3 ⟨⟨s3, y3, t3, x3, cc3, rfl, hv3⟩, nz3⟩
  have HV3 : Hid _ := hv3
  have A4 := Below.step A3 nz3 (Nat.le_refl _)
  have J4 := hid_keep J3 nz3
  have B31 := hid_keep B21 nz3
  have B32 := hid_keep B22 nz3
  have q31 : z1.heap.size < z3.heap.size := (Array.getElem?_eq_some_iff.1 B31.out).1
  have q32 : z2.heap.size < z3.heap.size := (Array.getElem?_eq_some_iff.1 B32.out).1
  have q33 : w.heap.size + 1 < z3.heap.size := (Array.getElem?_eq_some_iff.1 J4.out).1
  clear hv3
  obtain ⟨p0, p1, p2⟩ := (three_cells B31.out).1
  obtain ⟨p3, p4, p5⟩ := (three_cells B32.out).1
  obtain ⟨d0, d1, d2, d3, d4, d5, d6, d7, d8⟩ := nine_cells J4.out
  have ff := nine_free J4.out
  have f0 := ff 0; have f1 := ff 1; have f2 := ff 2; have f3 := ff 3; have f4 := ff 4; have f5 := ff 5; have f6 := ff 6; have f7 := ff 7; have f8 := ff 8
  clear ff
  have r31 : z1.heap.size ≠ z3.heap.size := by omega
  have r32 : z2.heap.size ≠ z3.heap.size := by omega
  have r33 : w.heap.size + 1 ≠ z3.heap.size := by omega
  by_cases hall : q1 = true ∧ q2 = true ∧ q3 = true
  · obtain ⟨rfl, rfl, rfl⟩ := hall
    obtain ⟨gi, rfl, rfl, rfl, rfl, rfl, oi⟩ := HV1.out (by trivial)
    obtain ⟨gd, rfl, rfl, rfl, rfl, rfl, od⟩ := HV2.out (by trivial)
    obtain ⟨gp, rfl, rfl, rfl, rfl, rfl, op⟩ := HV3.out (by trivial)
    have lgi := (own_at oi).2
    have lgd := (own_at od).2
    have lgp := (own_at op).2
    simp only at lgi lgd lgp
    have oi' := own_below (own_below (own_below oi mz1) m2) nz3
    have od' := own_below (own_below od mz2) nz3
    have s1' := m2.size
    have s2' := nz3.size
    have s3' := m1.size
    go_wp2_with fail
    refine bodyPost_ret (v := .tuple #[.agg (setC k gi gd gp), .bool true]) (by simp [results, Tryz.results54, go_sem, setC, d0, d1, d2, d3, d4, d5, d6, d7, d8, q33]) rfl ⟨⟨gi, gd, gp, rfl, ?_⟩, (bel9 A4 (by omega) _ _ _ _ _ _ _ _ _).alloc (by simp; omega) _⟩
    have g9 := gb9 z3 (w.heap.size + 1)
    exact RowsAt.keep ⟨own_low (own_gb oi' (g9 _ _ _ _ _ _ _ _ _) (by omega)) (by omega), own_low (own_gb od' (g9 _ _ _ _ _ _ _ _ _) (by omega)) (by omega), own_low (own_gb op (g9 _ _ _ _ _ _ _ _ _) (by omega)) (by omega), by omega, by omega, by omega⟩ ((Below.refl _ _).alloc (Nat.le_refl _) _)
  · have hall' : (q1 && q2 && q3) = false := by
      cases q1 <;> cases q2 <;> cases q3 <;> simp at hall ⊢
    cases q1 <;> cases q2 <;> cases q3
    all_goals first | (exfalso; simp at hall'; done) | skip
    all_goals
      go_wp2_with fail
      exact bodyPost_ret (v := .tuple #[.agg #[.int .i64 0, .int .i64 0, .slice none 0 0, .int .i64 0, .int .i64 0, .slice none 0 0, .int .i64 0, .int .i64 0, .slice none 0 0], .bool false]) (by simp [results, Tryz.results54, go_sem, d0, d1, d2, d3, d4, d5, d6, d7, d8, q33]) rfl ⟨rfl, (bel9 A4 (by omega) _ _ _ _ _ _ _ _ _).alloc (by simp; omega) _⟩

end Go.Proofs.YthekickjjaleaacGreat

/- The program's caches: three caches handed out. -/
namespace Go.Proofs.YthekickjjaleaacGreat
open Go.RowKit
set_option linter.unusedVariables false

set_option maxRecDepth 20000 in
set_option maxHeartbeats 3200000 in
theorem caches_any (b base gi gd gp : Nat) (k : KM) (w : World) (hS : SetAt w b base gi gd gp k) (hli : k.i.es.length ≤ 1048576) (hld : k.d.es.length ≤ 1048576) (hkl : k.p.es.length ≤ 1048576) :
    Calls Tryz.prog 59 #[.pointer (some ⟨b, 0, none⟩)] w fun e w' => (∃ x, e = .returned x ∧ KSep w.heap.size w' x k) ∧ Below w.heap.size w w' := by
  have HS : Hid (SetAt w b base gi gd gp k) := hS
  have hb := hS.lt
  have n1 := (Below.refl w.heap.size w).alloc (Nat.le_refl _) (Obj.cells #[.int .i64 0, .int .i64 0, .slice none 0 0, .int .i64 0, .int .i64 0, .slice none 0 0, .int .i64 0, .int .i64 0, .slice none 0 0] 36)
  have H1 : Hid ((w.alloc (Obj.cells #[.int .i64 0, .int .i64 0, .slice none 0 0, .int .i64 0, .int .i64 0, .slice none 0 0, .int .i64 0, .int .i64 0, .slice none 0 0] 36)).heap[w.heap.size]? = some (.cells #[.int .i64 0, .int .i64 0, .slice none 0 0, .int .i64 0, .int .i64 0, .slice none 0 0, .int .i64 0, .int .i64 0, .slice none 0 0] 36 (0, 0))) := heap_alloc_new w _
  have l1 : w.heap.size < (w.alloc (Obj.cells #[.int .i64 0, .int .i64 0, .slice none 0 0, .int .i64 0, .int .i64 0, .slice none 0 0, .int .i64 0, .int .i64 0, .slice none 0 0] 36)).heap.size := by simp
  have HI : Hid (∀ u, Below w.heap.size w u → Calls Tryz.prog 112 #[.pointer (some ⟨b, 0, none⟩)] u fun e w' => (∃ x, e = .returned x ∧ TlbOwn u.heap.size w' x k.i) ∧ Below u.heap.size u w') := fun u hu => by
    have S := HS.out.keep hu
    obtain ⟨c0, c1, c2⟩ := S.cellI
    exact tlbL_any b 0 gi k.i.es.length k.i u rfl hli S.lt (own_at S.2.1.1).2.2 c0 c1 c2 (row_own S.2.1.1)
  have HD : Hid (∀ u, Below w.heap.size w u → Calls Tryz.prog 112 #[.pointer (some ⟨b, 3, none⟩)] u fun e w' => (∃ x, e = .returned x ∧ TlbOwn u.heap.size w' x k.d) ∧ Below u.heap.size u w') := fun u hu => by
    have S := HS.out.keep hu
    obtain ⟨c0, c1, c2⟩ := S.cellD
    exact tlbL_any b 3 gd k.d.es.length k.d u rfl hld S.lt (own_at S.2.1.2.1).2.2 c0 c1 c2 (row_own S.2.1.2.1)
  have HP : Hid (∀ u, Below w.heap.size w u → Calls Tryz.prog 113 #[.pointer (some ⟨b, 6, none⟩)] u fun e w' => (∃ x, e = .returned x ∧ TlbOwn u.heap.size w' x k.p) ∧ Below u.heap.size u w') := fun u hu => by
    have S := HS.out.keep hu
    obtain ⟨c0, c1, c2⟩ := S.cellP
    exact tlbP_any b 6 gp k.p.es.length k.p u rfl hkl S.lt (own_at S.2.1.2.2.1).2.2 c0 c1 c2 (row_own S.2.1.2.2.1)
  have HC : Hid (∀ u, Below w.heap.size w u → u.cell? ⟨b, 0, none⟩ = some (.int .i64 k.i.sets)) := fun u hu => (HS.out.keep hu).cellI.1
  have nb1 : b ≠ w.heap.size := by omega
  have nb2 : w.heap.size ≠ b := by omega
  clear hS
  go_enter Tryz.func59, Tryz.ntmps59
  go_wp2_with fail
  generalize w.alloc (Obj.cells #[.int .i64 0, .int .i64 0, .slice none 0 0, .int .i64 0, .int .i64 0, .slice none 0 0, .int .i64 0, .int .i64 0, .slice none 0 0] 36) = v1 at n1 H1 l1 ⊢
  have D1 : Below v1.heap.size v1 v1.drew := (Below.refl _ _).drew
  have A1 := Below.step n1 D1 (Nat.le_refl _)
  have cb := HC.out v1 n1
  have HJ1 := hid_keep H1 D1
  go_region_held3 (fun w' => w'.cell? ⟨b, 0, none⟩ = some (.int .i64 k.i.sets)) (go_keep)
    (first
    | (go_at_call 112; (with_reducible refine (HI.out v1.drew A1).mono ?_); rintro e y1 ⟨⟨x1, rfl, hx1⟩, m1⟩; have A2 := Below.step A1 m1 (Nat.le_refl _); have cb1 := HC.out y1 A2; have HJ2 := hid_keep HJ1 m1; obtain ⟨g1, e1, rfl, o1⟩ := hx1; have O1 : Hid _ := o1; clear o1)
    | (go_at_call 112; (with_reducible refine (HD.out y1 A2).mono ?_); rintro e y2 ⟨⟨x2, rfl, hx2⟩, m2⟩; have A3 := Below.step A2 m2 (Nat.le_refl _); have cb2 := HC.out y2 A3; have HJ3 := hid_keep HJ2 m2; obtain ⟨g2, e2, rfl, o2⟩ := hx2; have O2 : Hid _ := o2; clear o2)
    | (go_at_call 113; (with_reducible refine (HP.out y2 A3).mono ?_); rintro e y3 ⟨⟨x3, rfl, hx3⟩, m3⟩; have A4 := Below.step A3 m3 (Nat.le_refl _); have cb3 := HC.out y3 A4; have HJ4 := hid_keep HJ3 m3; obtain ⟨g3, e3, rfl, o3⟩ := hx3; have O3 : Hid _ := o3; have jj := nine_cells HJ4.out; obtain ⟨j0, j1, j2, j3, j4, j5, j6, j7, j8⟩ := jj; have ff := nine_free HJ4.out; have f0 := ff 0; have f1 := ff 1; have f2 := ff 2; have f3 := ff 3; have f4 := ff 4; have f5 := ff 5; have f6 := ff 6; have f7 := ff 7; have f8 := ff 8; clear o3 ff))
  all_goals
    go_wp2_with fail
    have q1 := (own_at O1.out).2
    have q2 := (own_at O2.out).2
    have q3 := (own_at O3.out).2
    have z1 := m1.size
    have z2 := m2.size
    have z0 := D1.size
    simp only at q1 q2 q3
    have g9 := gb9 y3 w.heap.size
    refine bodyPost_ret (v := .agg #[.int .i64 k.i.sets, .int .i64 k.i.ways, .slice (some ⟨g1, 0, none⟩) k.i.es.length e1, .int .i64 k.d.sets, .int .i64 k.d.ways, .slice (some ⟨g2, 0, none⟩) k.d.es.length e2, .int .i64 k.p.sets, .int .i64 k.p.ways, .slice (some ⟨g3, 0, none⟩) k.p.es.length e3]) (by simp [results, Tryz.results59, go_sem, j0, j1, j2, j3, j4, j5, j6, j7, j8]) rfl ⟨⟨_, rfl, g1, e1, g2, e2, g3, e3, rfl, ?_, ?_, ?_, by omega, by omega, by omega⟩, bel9 A4 (Nat.le_refl _) _ _ _ _ _ _ _ _ _⟩
    · exact own_low (own_gb (own_below (own_below O1.out m2) m3) (g9 _ _ _ _ _ _ _ _ _) (by omega)) (by omega)
    · exact own_low (own_gb (own_below O2.out m3) (g9 _ _ _ _ _ _ _ _ _) (by omega)) (by omega)
    · exact own_low (own_gb O3.out (g9 _ _ _ _ _ _ _ _ _) (by omega)) (by omega)

end Go.Proofs.YthekickjjaleaacGreat

/- The program's TlbTranslate. -/
namespace Go.Proofs.YthekickjjaleaacGreat
open Go.RowKit
set_option linter.unusedVariables false

theorem bad_own (base : Nat) (w : World) : TransSep base w (.agg #[.int .i64 63, .int .u64 0, .int .i64 0, .int .i64 0, .slice none 0 0, .int .i64 0, .int .i64 0, .slice none 0 0, .int .i64 0, .int .i64 0, .slice none 0 0]) ((63, 0), k0M) :=
  ⟨_, _, _, rfl, World.ownsRow_nil _ _ _ _, World.ownsRow_nil _ _ _ _, World.ownsRow_nil _ _ _ _, fun g h => (by cases h), fun g h => (by cases h), fun g h => (by cases h)⟩

theorem trans_len (zs : List Int) (mode : Int) (sum mxr : Bool) (satp : Int) (k : KM) (kind va pick : Int) (h1 : k.i.es.length ≤ 1048576) (h2 : k.d.es.length ≤ 1048576) (h3 : k.p.es.length ≤ 1048576) :
    (tlbTransM zs mode sum mxr satp k kind va pick).2.i.es.length ≤ 1048576 ∧ (tlbTransM zs mode sum mxr satp k kind va pick).2.d.es.length ≤ 1048576 ∧ (tlbTransM zs mode sum mxr satp k kind va pick).2.p.es.length ≤ 1048576 := by
  unfold tlbTransM
  split
  · simp [k0M, tlb0]
  · split
    · exact ⟨h1, h2, h3⟩
    · split
      · exact ⟨h1, h2, h3⟩
      · split
        · exact ⟨h1, h2, h3⟩
        · simp only
          split
          · unfold putM pickM
            split
            · simp only [ptrs_len, insert_len]
              exact ⟨h1, h2, h3⟩
            · simp only [ptrs_len, insert_len]
              exact ⟨h1, h2, h3⟩
          · simp only [ptrs_len]
            exact ⟨h1, h2, h3⟩

set_option maxRecDepth 20000 in
set_option maxHeartbeats 3200000 in
theorem implTrans_any (a : Option Addr) (len cap : Nat) (zs : List Int) (mode : Int) (sum mxr : Bool) (satp : Int) (v : Value) (k : KM) (kind va pick : Int) (w : World) (h : KAt w v k) (hB : Byt w a len zs) (hlen : len ≤ 1048576) (hv0 : 0 ≤ va) (hv1 : va ≤ 18446744073709551615) (hr0 : 0 ≤ satp) (hr1 : satp ≤ 18446744073709551615) :
    Calls Tryz.prog 12 #[.slice a len cap, .agg #[.int .i64 mode, .bool sum, .bool mxr, .int .u64 satp], v, .int .i64 kind, .int .u64 va, .int .i64 pick] w fun e w' => (∃ x, e = .returned x ∧ TransSep w.heap.size w' x (tlbTransM zs mode sum mxr satp k kind va pick)) ∧ Below w.heap.size w w' := by
  have HK : Hid (KAt w v k) := h
  obtain ⟨a1, c1, a2, c2, a3, c3, rfl, T1, T2, T3⟩ := h
  obtain ⟨ki, _, _, li⟩ := TlbAt.ok T1
  obtain ⟨kd, _, _, ld⟩ := TlbAt.ok T2
  obtain ⟨kp, _, _, lp⟩ := TlbAt.ok T3
  have HBy : Hid (Byt w a len zs) := hB
  obtain ⟨gk, hgk⟩ : ∃ gk, goodKM k = gk := ⟨_, rfl⟩
  obtain ⟨ka, hka⟩ : ∃ ka, decide (0 ≤ kind ∧ kind ≤ 2 ∧ 0 ≤ mode ∧ mode ≤ 2) = ka := ⟨_, rfl⟩
  obtain ⟨kq, hkq⟩ : ∃ kq, decide (0 ≤ pick ∧ pick ≤ 255) = kq := ⟨_, rfl⟩
  obtain ⟨X, hX⟩ : ∃ X, tlbTransM zs mode sum mxr satp k kind va pick = X := ⟨_, rfl⟩
  have HXb : Hid (gk = false ∨ ka = false ∨ kq = false → X = ((63, 0), k0M)) := fun hh => by
    rw [← hX, tlbTransM, if_pos]
    rcases hh with hh | hh | hh
    · exact .inl (hgk.trans hh)
    · rw [hh] at hka
      have : ¬ (0 ≤ kind ∧ kind ≤ 2 ∧ 0 ≤ mode ∧ mode ≤ 2) := by simpa using hka
      omega
    · rw [hh] at hkq
      have : ¬ (0 ≤ pick ∧ pick ≤ 255) := by simpa using hkq
      omega
  have HSet : Hid (∀ u, Below w.heap.size w u → Calls Tryz.prog 54 #[.agg #[.int .i64 k.i.sets, .int .i64 k.i.ways, .slice a1 k.i.es.length c1, .int .i64 k.d.sets, .int .i64 k.d.ways, .slice a2 k.d.es.length c2, .int .i64 k.p.sets, .int .i64 k.p.ways, .slice a3 k.p.es.length c3]] u fun e w' => cond gk (SetAns u.heap.size w' e k) (e = .returned (.tuple #[.agg #[.int .i64 0, .int .i64 0, .slice none 0 0, .int .i64 0, .int .i64 0, .slice none 0 0, .int .i64 0, .int .i64 0, .slice none 0 0], .bool false])) ∧ Below u.heap.size u w') := fun u hu => by
    have := cacheSetOf_any _ k u (HK.out.keep hu)
    rw [hgk] at this
    exact this
  have HAc : Hid (∀ u : World, Calls Tryz.prog 55 #[.agg #[.int .i64 mode, .bool sum, .bool mxr, .int .u64 satp], .int .i64 kind] u fun e w' => e = .returned (.bool ka) ∧ Below u.heap.size u w') := fun u => by
    have := knownAccess_at mode sum mxr satp kind u
    rw [hka] at this
    exact this
  have HPk : Hid (∀ u : World, Calls Tryz.prog 56 #[.int .i64 pick] u fun e w' => e = .returned (.bool kq) ∧ w' = u) := fun u => by
    have := knownPick_at pick u
    rw [hkq] at this
    exact this
  have HPh : Hid (gk = true → ka = true → kq = true → ∀ b base gi gd gp u, SetAt u b base gi gd gp k → Below w.heap.size w u → Calls Tryz.prog 57 #[.pointer (some ⟨b, 0, none⟩), .iface 121 (.slice a len cap), .agg #[.int .i64 mode, .bool sum, .bool mxr, .int .u64 satp], .int .i64 kind, .int .u64 va, .int .i64 pick] u fun e w' => PhAns u w' e b base gi gd gp kind X) := fun e1 e2 e3 b base gi gd gp u hs hu => by
    rw [e2] at hka
    rw [e3] at hkq
    have q1 : 0 ≤ kind ∧ kind ≤ 2 ∧ 0 ≤ mode ∧ mode ≤ 2 := by simpa using hka
    have q2 : 0 ≤ pick ∧ pick ≤ 255 := by simpa using hkq
    have := phys_any b base gi gd gp k _ zs mode sum mxr satp kind va pick u hs (hgk.trans e1) ki kd kp li ld lp (src_mem cap (HBy.out.keep hu) hlen) hv0 hv1 hr0 hr1 q2.1 q2.2 ⟨q1.2.2.1, q1.2.2.2⟩ ⟨q1.1, q1.2.1⟩
    rw [hX] at this
    exact this
  have HXl : Hid (X.2.i.es.length ≤ 1048576 ∧ X.2.d.es.length ≤ 1048576 ∧ X.2.p.es.length ≤ 1048576) := by
    rw [← hX]
    exact trans_len zs mode sum mxr satp k kind va pick li ld lp
  rw [hX]
  have HBad : Hid (∀ u, TransSep w.heap.size u (.agg #[.int .i64 63, .int .u64 0, .int .i64 0, .int .i64 0, .slice none 0 0, .int .i64 0, .int .i64 0, .slice none 0 0, .int .i64 0, .int .i64 0, .slice none 0 0]) ((63, 0), k0M)) := fun u => bad_own _ u
  clear hX hgk hka hkq hB T1 T2 T3
  have n1 := (((Below.refl w.heap.size w).alloc (Nat.le_refl _) (Obj.cells #[.int .i64 mode, .bool sum, .bool mxr, .int .u64 satp] 41)).alloc (by simp) (Obj.cells #[.int .i64 k.i.sets, .int .i64 k.i.ways, .slice a1 k.i.es.length c1, .int .i64 k.d.sets, .int .i64 k.d.ways, .slice a2 k.d.es.length c2, .int .i64 k.p.sets, .int .i64 k.p.ways, .slice a3 k.p.es.length c3] 36)).alloc (by simp; omega) (Obj.cells #[.int .i64 0, .int .u64 0, .int .i64 0, .int .i64 0, .slice none 0 0, .int .i64 0, .int .i64 0, .slice none 0 0, .int .i64 0, .int .i64 0, .slice none 0 0] 38)
  have H1 : Hid ((((w.alloc (Obj.cells #[.int .i64 mode, .bool sum, .bool mxr, .int .u64 satp] 41)).alloc (Obj.cells #[.int .i64 k.i.sets, .int .i64 k.i.ways, .slice a1 k.i.es.length c1, .int .i64 k.d.sets, .int .i64 k.d.ways, .slice a2 k.d.es.length c2, .int .i64 k.p.sets, .int .i64 k.p.ways, .slice a3 k.p.es.length c3] 36)).alloc (Obj.cells #[.int .i64 0, .int .u64 0, .int .i64 0, .int .i64 0, .slice none 0 0, .int .i64 0, .int .i64 0, .slice none 0 0, .int .i64 0, .int .i64 0, .slice none 0 0] 38)).heap[w.heap.size]? = some (.cells #[.int .i64 mode, .bool sum, .bool mxr, .int .u64 satp] 41 (0, 0))) := by
    show _ = _
    rw [heap_alloc_old _ _ (by simp; omega), heap_alloc_old _ _ (by simp)]
    exact heap_alloc_new w _
  have H3 : Hid ((((w.alloc (Obj.cells #[.int .i64 mode, .bool sum, .bool mxr, .int .u64 satp] 41)).alloc (Obj.cells #[.int .i64 k.i.sets, .int .i64 k.i.ways, .slice a1 k.i.es.length c1, .int .i64 k.d.sets, .int .i64 k.d.ways, .slice a2 k.d.es.length c2, .int .i64 k.p.sets, .int .i64 k.p.ways, .slice a3 k.p.es.length c3] 36)).alloc (Obj.cells #[.int .i64 0, .int .u64 0, .int .i64 0, .int .i64 0, .slice none 0 0, .int .i64 0, .int .i64 0, .slice none 0 0, .int .i64 0, .int .i64 0, .slice none 0 0] 38)).heap[w.heap.size + 1 + 1]? = some (.cells #[.int .i64 0, .int .u64 0, .int .i64 0, .int .i64 0, .slice none 0 0, .int .i64 0, .int .i64 0, .slice none 0 0, .int .i64 0, .int .i64 0, .slice none 0 0] 38 (0, 0))) := by
    have := heap_alloc_new ((w.alloc (Obj.cells #[.int .i64 mode, .bool sum, .bool mxr, .int .u64 satp] 41)).alloc (Obj.cells #[.int .i64 k.i.sets, .int .i64 k.i.ways, .slice a1 k.i.es.length c1, .int .i64 k.d.sets, .int .i64 k.d.ways, .slice a2 k.d.es.length c2, .int .i64 k.p.sets, .int .i64 k.p.ways, .slice a3 k.p.es.length c3] 36)) (Obj.cells #[.int .i64 0, .int .u64 0, .int .i64 0, .int .i64 0, .slice none 0 0, .int .i64 0, .int .i64 0, .slice none 0 0, .int .i64 0, .int .i64 0, .slice none 0 0] 38)
    simp only [World.size_alloc] at this
    exact this
  have l1 : (((w.alloc (Obj.cells #[.int .i64 mode, .bool sum, .bool mxr, .int .u64 satp] 41)).alloc (Obj.cells #[.int .i64 k.i.sets, .int .i64 k.i.ways, .slice a1 k.i.es.length c1, .int .i64 k.d.sets, .int .i64 k.d.ways, .slice a2 k.d.es.length c2, .int .i64 k.p.sets, .int .i64 k.p.ways, .slice a3 k.p.es.length c3] 36)).alloc (Obj.cells #[.int .i64 0, .int .u64 0, .int .i64 0, .int .i64 0, .slice none 0 0, .int .i64 0, .int .i64 0, .slice none 0 0, .int .i64 0, .int .i64 0, .slice none 0 0] 38)).heap.size = w.heap.size + 3 := by simp
  go_enter Tryz.func12, Tryz.ntmps12
  go_wp2_with fail
  generalize (((w.alloc (Obj.cells #[.int .i64 mode, .bool sum, .bool mxr, .int .u64 satp] 41)).alloc (Obj.cells #[.int .i64 k.i.sets, .int .i64 k.i.ways, .slice a1 k.i.es.length c1, .int .i64 k.d.sets, .int .i64 k.d.ways, .slice a2 k.d.es.length c2, .int .i64 k.p.sets, .int .i64 k.p.ways, .slice a3 k.p.es.length c3] 36)).alloc (Obj.cells #[.int .i64 0, .int .u64 0, .int .i64 0, .int .i64 0, .slice none 0 0, .int .i64 0, .int .i64 0, .slice none 0 0, .int .i64 0, .int .i64 0, .slice none 0 0] 38)) = v1 at n1 H1 H3 l1 ⊢
  refine (HSet.out v1 n1).mono ?_
  rintro e v2 ⟨hc, n2⟩
  have A2 := Below.step n1 n2 (Nat.le_refl _)
  have C2 := hid_keep H1 n2
  have J2 := hid_keep H3 n2
  have s2 := n2.size
  clear n1 H1 H3 HSet
  cases gk
  · dsimp only [cond] at hc
    subst hc
    have hx := HXb.out (.inl (by trivial))
    subst hx
    have l2 : w.heap.size + 1 + 1 < v2.heap.size := by omega
    obtain ⟨d0, d1, d2, d3, d4, d5, d6, d7, d8, d9, d10⟩ := eleven_cells J2.out
    have ff := eleven_free J2.out
    have f0 := ff 0; have f1 := ff 1; have f2 := ff 2; have f3 := ff 3; have f4 := ff 4; have f5 := ff 5; have f6 := ff 6; have f7 := ff 7; have f8 := ff 8; have f9 := ff 9; have f10 := ff 10
    clear ff
    go_wp2_with fail
    exact bodyPost_ret (v := .agg #[.int .i64 63, .int .u64 0, .int .i64 0, .int .i64 0, .slice none 0 0, .int .i64 0, .int .i64 0, .slice none 0 0, .int .i64 0, .int .i64 0, .slice none 0 0]) (by simp [results, Tryz.results12, go_sem, d0, d1, d2, d3, d4, d5, d6, d7, d8, d9, d10, l2]) rfl ⟨⟨_, rfl, HBad.out _⟩, (bel11 A2 (by omega) _ _ _ _ _ _ _ _ _ _ _).alloc (by simp; omega) _⟩
  · dsimp only [cond] at hc
    obtain ⟨gi, gd, gp, rfl, hrows⟩ := hc
    have lgi := (own_at hrows.1).2
    have lgd := (own_at hrows.2.1).2
    have lgp := (own_at hrows.2.2.1).2
    simp only at lgi lgd lgp
    have n3 := (Below.refl v2.heap.size v2).alloc (Nat.le_refl _) (Obj.cells (setC k gi gd gp) 112)
    have S3 : SetAt (v2.alloc (Obj.cells (setC k gi gd gp) 112)) v2.heap.size v1.heap.size gi gd gp k := ⟨heap_alloc_new v2 _, hrows.keep n3, by omega, by omega, by omega⟩
    have HS3 : Hid _ := S3
    have A3 := Below.step A2 n3 (Nat.le_refl _)
    have C3 := hid_keep C2 n3
    have J3 := hid_keep J2 n3
    have s3 := n3.size
    have l3 : w.heap.size < v2.heap.size := by omega
    clear S3 hrows n2 n3
    obtain ⟨⟨k0, k1, k2, k3⟩, _, _, _, _⟩ := four_cells C2.out
    have e3 : setC k gi gd gp = #[.int .i64 k.i.sets, .int .i64 k.i.ways, .slice (some ⟨gi, 0, none⟩) k.i.es.length k.i.es.length, .int .i64 k.d.sets, .int .i64 k.d.ways, .slice (some ⟨gd, 0, none⟩) k.d.es.length k.d.es.length, .int .i64 k.p.sets, .int .i64 k.p.ways, .slice (some ⟨gp, 0, none⟩) k.p.es.length k.p.es.length] := rfl
    rw [e3] at HS3 A3 C3 J3 s3
    simp only [setC]
    go_wp2_with fail
    generalize v2.alloc (Obj.cells #[.int .i64 k.i.sets, .int .i64 k.i.ways, .slice (some ⟨gi, 0, none⟩) k.i.es.length k.i.es.length, .int .i64 k.d.sets, .int .i64 k.d.ways, .slice (some ⟨gd, 0, none⟩) k.d.es.length k.d.es.length, .int .i64 k.p.sets, .int .i64 k.p.ways, .slice (some ⟨gp, 0, none⟩) k.p.es.length k.p.es.length] 112) = v3 at HS3 A3 C3 J3 s3 ⊢
    refine (HAc.out v3).mono ?_
    rintro e v4 ⟨rfl, n4⟩
    have A4 := Below.step A3 n4 (Nat.le_refl _)
    have C4 := hid_keep C3 n4
    have J4 := hid_keep J3 n4
    have HS4 : Hid (SetAt v4 v2.heap.size v1.heap.size gi gd gp k) := SetAt.keep HS3.out n4
    have s4 := n4.size
    clear n4 A3 C3 J3 HS3 k0 k1 k2 k3 C2 J2 A2 HAc
    cases ka
    · have hx := HXb.out (.inr (.inl (by trivial)))
      subst hx
      obtain ⟨d0, d1, d2, d3, d4, d5, d6, d7, d8, d9, d10⟩ := eleven_cells J4.out
      have ff := eleven_free J4.out
      have f0 := ff 0; have f1 := ff 1; have f2 := ff 2; have f3 := ff 3; have f4 := ff 4; have f5 := ff 5; have f6 := ff 6; have f7 := ff 7; have f8 := ff 8; have f9 := ff 9; have f10 := ff 10
      clear ff
      go_wp2_with fail
      exact bodyPost_ret (v := .agg #[.int .i64 63, .int .u64 0, .int .i64 0, .int .i64 0, .slice none 0 0, .int .i64 0, .int .i64 0, .slice none 0 0, .int .i64 0, .int .i64 0, .slice none 0 0]) (by simp [results, Tryz.results12, go_sem, d0, d1, d2, d3, d4, d5, d6, d7, d8, d9, d10]) rfl ⟨⟨_, rfl, HBad.out _⟩, bel11 A4 (by omega) _ _ _ _ _ _ _ _ _ _ _⟩
    go_wp2_with fail
    refine (HPk.out v4).mono ?_
    rintro e u ⟨rfl, hu⟩
    rw [hu]
    clear hu u
    cases kq
    · have hx := HXb.out (.inr (.inr (by trivial)))
      subst hx
      obtain ⟨d0, d1, d2, d3, d4, d5, d6, d7, d8, d9, d10⟩ := eleven_cells J4.out
      have ff := eleven_free J4.out
      have f0 := ff 0; have f1 := ff 1; have f2 := ff 2; have f3 := ff 3; have f4 := ff 4; have f5 := ff 5; have f6 := ff 6; have f7 := ff 7; have f8 := ff 8; have f9 := ff 9; have f10 := ff 10
      clear ff
      go_wp2_with fail
      exact bodyPost_ret (v := .agg #[.int .i64 63, .int .u64 0, .int .i64 0, .int .i64 0, .slice none 0 0, .int .i64 0, .int .i64 0, .slice none 0 0, .int .i64 0, .int .i64 0, .slice none 0 0]) (by simp [results, Tryz.results12, go_sem, d0, d1, d2, d3, d4, d5, d6, d7, d8, d9, d10]) rfl ⟨⟨_, rfl, HBad.out _⟩, bel11 A4 (by omega) _ _ _ _ _ _ _ _ _ _ _⟩
    obtain ⟨⟨k0, k1, k2, k3⟩, _, _, _, _⟩ := four_cells C4.out
    go_wp2_with fail
    refine (HPh.out (by trivial) (by trivial) (by trivial) v2.heap.size v1.heap.size gi gd gp v4 HS4.out A4).mono ?_
    rintro e v5 ⟨pa, code, rfl, hcode, hans, hset, hkp⟩
    have HAns : Hid (X.1 = (if code = 1 then 0 else if code = 2 then pageM kind else accessM kind, pa)) := hans
    have HSt : Hid (SetAt v5 v2.heap.size v1.heap.size gi gd gp X.2) := hset
    have A5 := Keeps.below A4 hkp A4.size (by omega) (by omega) (by omega)
    have J5 : Hid (v5.heap[w.heap.size + 1 + 1]? = some (.cells #[.int .i64 0, .int .u64 0, .int .i64 0, .int .i64 0, .slice none 0 0, .int .i64 0, .int .i64 0, .slice none 0 0, .int .i64 0, .int .i64 0, .slice none 0 0] 38 (0, 0))) := hkp.heap J4.out (by omega) (by omega) (by omega)
    have s5 := hkp.2.2.2.1
    clear hans hset hkp k0 k1 k2 k3 C4 J4 HS4 A4 HPh HPk
    go_wp2_with fail
    refine (causeOf_at code kind v5 hcode).mono ?_
    rintro e u ⟨rfl, hu⟩
    rw [hu]
    clear hu u
    obtain ⟨cs, hcs⟩ : ∃ cs, (if code = 1 then 0 else if code = 2 then pageM kind else accessM kind) = cs := ⟨_, rfl⟩
    rw [hcs] at HAns ⊢
    go_wp2_with fail
    refine (caches_any v2.heap.size v1.heap.size gi gd gp X.2 v5 HSt.out HXl.out.1 HXl.out.2.1 HXl.out.2.2).mono ?_
    rintro e v6 ⟨⟨x, rfl, g1, e1, g2, e2, g3, e3', rfl, o1, o2, o3, dd1, dd2, dd3⟩, n6⟩
    have A6 := Below.step A5 n6 (Nat.le_refl _)
    have J6 := hid_keep J5 n6
    have q1 := (own_at o1).2.1
    have q2 := (own_at o2).2.1
    have q3 := (own_at o3).2.1
    simp only at q1 q2 q3
    obtain ⟨d0, d1, d2, d3, d4, d5, d6, d7, d8, d9, d10⟩ := eleven_cells J6.out
    have ff := eleven_free J6.out
    have f0 := ff 0; have f1 := ff 1; have f2 := ff 2; have f3 := ff 3; have f4 := ff 4; have f5 := ff 5; have f6 := ff 6; have f7 := ff 7; have f8 := ff 8; have f9 := ff 9; have f10 := ff 10
    clear ff
    go_wp2_with fail
    have g11 := gb11 v6 (w.heap.size + 1 + 1)
    refine bodyPost_ret (v := .agg #[.int .i64 cs, .int .u64 pa, .int .i64 X.2.i.sets, .int .i64 X.2.i.ways, .slice (some ⟨g1, 0, none⟩) X.2.i.es.length e1, .int .i64 X.2.d.sets, .int .i64 X.2.d.ways, .slice (some ⟨g2, 0, none⟩) X.2.d.es.length e2, .int .i64 X.2.p.sets, .int .i64 X.2.p.ways, .slice (some ⟨g3, 0, none⟩) X.2.p.es.length e3']) (by simp [results, Tryz.results12, go_sem, d0, d1, d2, d3, d4, d5, d6, d7, d8, d9, d10]) rfl ⟨⟨_, rfl, .slice (some ⟨g1, 0, none⟩) X.2.i.es.length e1, .slice (some ⟨g2, 0, none⟩) X.2.d.es.length e2, .slice (some ⟨g3, 0, none⟩) X.2.p.es.length e3', ?_, ?_, ?_, ?_, apart_of dd1, apart_of dd2, apart_of dd3⟩, bel11 A6 (by omega) _ _ _ _ _ _ _ _ _ _ _⟩
    · rw [HAns.out]
    · exact own_low (own_gb o1 (g11 _ _ _ _ _ _ _ _ _ _ _) (by omega)) (by omega)
    · exact own_low (own_gb o2 (g11 _ _ _ _ _ _ _ _ _ _ _) (by omega)) (by omega)
    · exact own_low (own_gb o3 (g11 _ _ _ _ _ _ _ _ _ _ _) (by omega)) (by omega)

end Go.Proofs.YthekickjjaleaacGreat

/- The laws' helpers of the plain translation: toCtx, eqTrans. -/
namespace Go.Proofs.YthekickjjaleaacGreat
open Go.RowKit
set_option linter.unusedVariables false
attribute [local go_sem ↓] Go.wp_at_zero Go.wp_at_succ

theorem toByteS_ex (a : Option Addr) (len cap : Nat) (zs : List Int) (w : World) (h : Byt w a len zs) (hl : len ≤ 1048576) :
    Calls Tryz.prog 9 #[.slice a len cap] w fun e w' => ∃ g, e = .returned (.slice (some ⟨g, 0, none⟩) len len) ∧ w.heap.size ≤ g ∧ Blk 5 w' g zs ∧ Below w.heap.size w w' :=
  (toByteS_any a len cap zs w h hl).mono fun e w' ⟨h1, h2, h3⟩ => ⟨_, h1, Nat.le_refl _, h2, h3⟩

set_option maxHeartbeats 400000 in
theorem toCtx_any (mode : Int) (sum mxr : Bool) (satp : Int) (w : World) :
    Calls Tryz.prog 10 #[.agg #[.int .i64 mode, .bool sum, .bool mxr, .int .u64 satp]] w fun e w' => e = .returned (ctxV mode sum mxr satp) ∧ Below w.heap.size w w' := by
  unfold ctxV
  go_enter Tryz.func10, Tryz.ntmps10
  go_wp2_with fail
  exact bodyPost_ret (v := .agg #[.int .i64 mode, .bool sum, .bool mxr, .int .u64 satp]) (by simp [results, Tryz.results10, go_sem]) rfl ⟨rfl, (((Below.refl _ _).alloc (Nat.le_refl _) _).alloc (by simp) _).alloc (by simp; omega) _⟩


end Go.Proofs.YthekickjjaleaacGreat

/- The program's writing: copied, write1 .. write8, impl.WriteMem. -/
namespace Go.Proofs.YthekickjjaleaacGreat
open Go.RowKit
set_option linter.unusedVariables false

theorem Tryz.sizeB : (Tryz.prog.info? 5).map (fun i => i.size) = some 1 := by kernel_rfl

set_option maxHeartbeats 400000 in
theorem copied_any (a : Option Addr) (len cap : Nat) (zs : List Int) (w : World) (h : Byt w a len zs) (hl : len ≤ 1048576) :
    Calls Tryz.prog 123 #[.slice a len cap] w fun e w' =>
      e = .returned (.slice (some ⟨w.heap.size, 0, none⟩) len len) ∧ Blk 5 w' w.heap.size zs ∧ Below w.heap.size w w' := by
  obtain ⟨i0, hi, hz0, hz1, hz2⟩ := info_parts Tryz.infoB
  have hz := h.1
  go_enter Tryz.func123, Tryz.ntmps123
  go_wp2_with (at_make; refine wpList_make_full _ rfl _ _ 121 rfl w.heap.size 5 i0 (.int .u8 0) 1 Tryz.underlying121 hi hz0 hz1 _ _ _ _ len rfl rfl rfl rfl ?b2 ?b3 (Nat.le_refl _) ?_)
  case b2 => rw [hz2]; omega
  case b3 => unfold maxLen; omega
  intro w0 hown0 hgrow0
  rw [made_u8] at hown0
  have hb0 : Blk 5 w0 w.heap.size (List.replicate len 0) := Blk.of_own hown0 rfl
  have hn0 : Below w.heap.size w w0 := (Below.refl _ _).grown hgrow0 (Nat.le_refl _) (fun k h => by cases h)
  have h0 := h.keep hn0
  clear hown0 hgrow0 h
  go_wp2_with (refine wpList_copy_splice rfl (.tmp 7) (.tmp 8) 121 121 rfl 5 Tryz.underlying121 Tryz.sizeB _ _ _ _ _ _ rfl rfl w.heap.size 0 ((List.replicate len (0 : Int)).map (Value.int .u8)) 5 hb0 (zs.map (Value.int .u8)) (by simp [hz]) (fun hp => ⟨rfl, src_any h0 (by simpa [hz] using hp)⟩) (by simp [hz]) (one_u8 _) w.heap.size w hn0 (Nat.le_refl _) ?_; intro w1 hb1 hn1)
  go_ret
  have hb2 := hb1.out
  rw [splice_all _ _ (by simp [hz])] at hb2
  exact ⟨rfl, hb2, hn1⟩

theorem write1_any (g len cap k : Nat) (zs : List Int) (val : Int) (w : World) (h : Blk 5 w g zs) (hz : zs.length = len) (hk : k < len) (hl : len ≤ 1048576) (hv0 : 0 ≤ val) (hv1 : val ≤ 18446744073709551615) :
    Calls Tryz.prog 173 #[.slice (some ⟨g, 0, none⟩) len cap, .int .u64 k, .int .u64 val] w fun e w' => e = .returned (.tuple #[]) ∧ Blk 5 w' g (put zs k (byts val 1)) ∧ Below g w w' := by
  have g2 := h.cell k (by omega)
  have g3 := h.free k
  have e : put zs k (byts val 1) = zs.set k (val % 256) := by rw [put_one zs k _ (by omega)]; rfl
  rw [e]
  have hb := h.store k (val % 256)
  clear e
  go_enter Tryz.func173, Tryz.ntmps173
  go_wp2_with fail
  go_end0
  exact ⟨rfl, hb, (Below.refl g w).setCell (p := ⟨g, k, none⟩) (Nat.le_refl g) _⟩





end Go.Proofs.YthekickjjaleaacGreat
