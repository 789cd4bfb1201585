import Derived.Test.YthekickjjaleaabPack14
import Derived.Test.YthekickjjaleaabPack06
import Derived.Test.YthekickjjaleaabPack13
import Derived.Test.YthekickjjaleaabPack09
import Derived.Test.YthekickjjaleaabPack07
import Derived.Deep.RegionHeld3
/- The program's hitIn, for one kind of cache. Written by mk4.py. -/
namespace Go.Proofs.Ythekickjjaleaab
open Go.RowKit
set_option linter.unusedVariables false

set_option maxHeartbeats 1600000 in
theorem hitInP_any (v : Value) (t : TlbM) (va asid : Int) (w : World) (h : TlbAt w v t) (hv0 : 0 ≤ va) (hv1 : va ≤ 18446744073709551615) :
    Calls Try.prog 102 #[v, .int .u64 va, .int .u64 asid] w fun e w' => HitAns (validM t true) (hitM t va asid) e ∧ Below w.heap.size w w' := by
  have HK : Hid (tlbOk t) := TlbAt.ok h
  have HT : Hid (TlbAt w v t) := h
  obtain ⟨a, cap, rfl, _⟩ := h
  have n1 := ((Below.refl w.heap.size w).alloc (Nat.le_refl _) (Obj.cells #[.int .i64 t.sets, .int .i64 t.ways, .slice a t.es.length cap] 63)).alloc (by simp) (Obj.cells #[.bool false, .int .i64 0, .int .i64 0, .int .u64 0] 68)
  have HT1 : Hid (TlbAt ((w.alloc (Obj.cells #[.int .i64 t.sets, .int .i64 t.ways, .slice a t.es.length cap] 63)).alloc (Obj.cells #[.bool false, .int .i64 0, .int .i64 0, .int .u64 0] 68)) (.agg #[.int .i64 t.sets, .int .i64 t.ways, .slice a t.es.length cap]) t) := HT.out.keep n1
  have H2 : Hid (((w.alloc (Obj.cells #[.int .i64 t.sets, .int .i64 t.ways, .slice a t.es.length cap] 63)).alloc (Obj.cells #[.bool false, .int .i64 0, .int .i64 0, .int .u64 0] 68)).heap[w.heap.size + 1]? = some (.cells #[.bool false, .int .i64 0, .int .i64 0, .int .u64 0] 68 (0, 0))) := by
    have := heap_alloc_new (w.alloc (Obj.cells #[.int .i64 t.sets, .int .i64 t.ways, .slice a t.es.length cap] 63)) (Obj.cells #[.bool false, .int .i64 0, .int .i64 0, .int .u64 0] 68)
    simp only [World.size_alloc] at this
    exact this
  have l1 : w.heap.size + 1 < ((w.alloc (Obj.cells #[.int .i64 t.sets, .int .i64 t.ways, .slice a t.es.length cap] 63)).alloc (Obj.cells #[.bool false, .int .i64 0, .int .i64 0, .int .u64 0] 68)).heap.size := by simp
  clear HT
  obtain ⟨q, hq⟩ : ∃ q, validM t true = q := ⟨_, rfl⟩
  have HQ : Hid (validM t true = q) := hq
  rw [hq]
  clear hq
  go_enter Try.func102, Try.ntmps102
  go_wp2_with fail
  generalize ((w.alloc (Obj.cells #[.int .i64 t.sets, .int .i64 t.ways, .slice a t.es.length cap] 63)).alloc (Obj.cells #[.bool false, .int .i64 0, .int .i64 0, .int .u64 0] 68)) = v1 at n1 HT1 H2 l1 ⊢
  refine (cacheOfP_any _ t v1 HT1.out).mono ?_
  rw [HQ.out]
  rintro e v2 ⟨hc, n2⟩
  have A2 := Below.step n1 n2 (Nat.le_refl _)
  have K2 := hid_keep H2 n2
  have l2 : w.heap.size + 1 < v2.heap.size := Nat.lt_of_lt_of_le l1 n2.size
  clear n1 n2 H2 HT1
  obtain ⟨⟨d0, d1, d2, d3⟩, e0, e1, e2, e3⟩ := four_cells K2.out
  cases q
  · dsimp only [cond] at hc
    subst hc
    go_wp2_with fail
    exact bodyPost_ret (v := .tuple #[.agg #[.bool false, .int .i64 0, .int .i64 0, .int .u64 0], .bool false]) (by simp [results, Try.results102, go_sem, d0, d1, d2, d3, l2]) rfl ⟨rfl, by first | exact (belH4 A2 (by omega) _ _ _ _).alloc (by simp; omega) _ | exact belH4 (A2.alloc A2.size _) (by omega) _ _ _ _⟩
  · dsimp only [cond] at hc
    obtain ⟨g, rfl, ho⟩ := hc
    have hg := own_at ho
    obtain ⟨_, hg1, hg2⟩ := hg
    simp only at hg1 hg2
    have n3 := (Below.refl v2.heap.size v2).alloc (Nat.le_refl _) (Obj.cells #[.int .i64 t.sets, .int .i64 t.ways, .slice (some ⟨g, 0, none⟩) t.es.length t.es.length] 123)
    have H3 : Hid ((v2.alloc (Obj.cells #[.int .i64 t.sets, .int .i64 t.ways, .slice (some ⟨g, 0, none⟩) t.es.length t.es.length] 123)).heap[v2.heap.size]? = some (.cells #[.int .i64 t.sets, .int .i64 t.ways, .slice (some ⟨g, 0, none⟩) t.es.length t.es.length] 123 (0, 0))) := heap_alloc_new v2 _
    have l3 : v2.heap.size < (v2.alloc (Obj.cells #[.int .i64 t.sets, .int .i64 t.ways, .slice (some ⟨g, 0, none⟩) t.es.length t.es.length] 123)).heap.size := by simp
    have R3 : Hid (RowC (v2.alloc (Obj.cells #[.int .i64 t.sets, .int .i64 t.ways, .slice (some ⟨g, 0, none⟩) t.es.length t.es.length] 123)) (some ⟨g, 0, none⟩) t.es.length 6 (slotsC t.es)) := (row_own ho).keep n3
    have K3 := hid_keep K2 n3
    have A3 := Below.step A2 n3 (Nat.le_refl _)
    clear ho n3 d0 d1 d2 d3 e0 e1 e2 e3
    go_wp2_with fail
    generalize v2.alloc (Obj.cells #[.int .i64 t.sets, .int .i64 t.ways, .slice (some ⟨g, 0, none⟩) t.es.length t.es.length] 123) = v3 at H3 l3 R3 K3 A3 ⊢
    obtain ⟨⟨p0, p1, p2⟩, _, _, _⟩ := three_cells H3.out
    refine (findP_any v2.heap.size 0 g t.es.length t va asid v3 rfl HK.out.2.2.2 HQ.out l3 p0 p1 p2 R3.out hv0 hv1).mono ?_
    obtain ⟨⟨f, i, l, pt⟩, hX⟩ : ∃ X, hitM t va asid = X := ⟨_, rfl⟩
    rw [hX]
    have HX : Hid (hitM t va asid = (f, i, l, pt)) := hX
    clear hX
    rintro e v4 ⟨rfl, n4⟩
    have A4 := Below.step A3 n4 (Nat.le_refl _)
    have K4 := hid_keep K3 n4
    have H4 := hid_keep H3 n4
    have R4 : Hid _ := R3.out.keep n4
    have l4 : v2.heap.size < v4.heap.size := Nat.lt_of_lt_of_le l3 n4.size
    clear n4 K3 H3 R3 A3 p0 p1 p2
    obtain ⟨⟨d0, d1, d2, d3⟩, e0, e1, e2, e3⟩ := four_cells K4.out
    obtain ⟨⟨p0, p1, p2⟩, _, _, _⟩ := three_cells H4.out
    cases f
    · have hz : (i, l, pt) = (0, 0, 0) := hit_zero HX.out
      simp only [Prod.mk.injEq] at hz
      obtain ⟨rfl, rfl, rfl⟩ := hz
      go_wp2_with fail
      exact bodyPost_ret (v := .tuple #[.agg #[.bool false, .int .i64 0, .int .i64 0, .int .u64 0], .bool true]) (by simp [results, Try.results102, go_sem, d0, d1, d2, d3]) rfl ⟨by unfold HitAns; rw [HX.out]; rfl, belH4 A4 (by omega) _ _ _ _⟩
    · obtain ⟨k, x, hx, hi, hlv, hpt, _, _⟩ := hit_get t va asid (by rw [HX.out])
      rw [HX.out] at hi hlv hpt
      simp only at hi hlv hpt
      subst hi hlv hpt
      have hkl : k < t.es.length := (List.getElem?_eq_some_iff.1 hx).1
      have hln := HK.out.2.2.2
      have CE : ∀ j u, j < 6 → (slotC x)[j]? = some u → v4.cell? ⟨g, k * 6 + j, none⟩ = some u := fun j u hj hu => slotRow_cell R4.out rfl k _ hx j u hj hu
      have g0 : v4.cell? ⟨g, k * 6, none⟩ = some (.int .i64 x.level) := CE 0 _ (by omega) rfl
      have g1 : v4.cell? ⟨g, k * 6 + 1, none⟩ = some (.int .u64 x.tag) := CE 1 _ (by omega) rfl
      have g2 : v4.cell? ⟨g, k * 6 + 2, none⟩ = some (.int .u64 x.asid) := CE 2 _ (by omega) rfl
      have g3 : v4.cell? ⟨g, k * 6 + 3, none⟩ = some (.bool x.glob) := CE 3 _ (by omega) rfl
      have g4 : v4.cell? ⟨g, k * 6 + 4, none⟩ = some (.bool x.valid) := CE 4 _ (by omega) rfl
      have g5 : v4.cell? ⟨g, k * 6 + 5, none⟩ = some (.int .u64 x.pte) := CE 5 _ (by omega) rfl
      clear CE hx R4
      have m1 : w.heap.size + 1 < v4.heap.size := by omega
      generalize x.level = lv at *
      generalize x.tag = tg at *
      generalize x.asid = asd at *
      generalize x.glob = gl at *
      generalize x.valid = vv at *
      generalize x.pte = pt at *
      go_wp2_with fail
      exact bodyPost_ret (v := .tuple #[.agg #[.bool true, .int .i64 k, .int .i64 lv, .int .u64 pt], .bool true]) (by simp [results, Try.results102, go_sem, d0, d1, d2, d3, m1]) rfl ⟨by unfold HitAns; rw [HX.out]; rfl, by first | exact (belH4 A4 (by omega) _ _ _ _).alloc (by simp; omega) _ | exact belH4 (A4.alloc A4.size _) (by omega) _ _ _ _⟩

end Go.Proofs.Ythekickjjaleaab

/- The program's Lookup. -/
namespace Go.Proofs.Ythekickjjaleaab
open Go.RowKit
set_option linter.unusedVariables false

set_option maxHeartbeats 1600000 in
theorem implLookup_any (v : Value) (t : TlbM) (va asid : Int) (w : World) (h : TlbAt w v t) (hv0 : 0 ≤ va) (hv1 : va ≤ 18446744073709551615) :
    Calls Try.prog 47 #[v, .int .u64 va, .int .u64 asid] w fun e w' =>
      e = .returned (.agg #[.bool (hitM t va asid).1, .int .i64 (hitM t va asid).2.1, .int .i64 (hitM t va asid).2.2.1, .int .u64 (hitM t va asid).2.2.2]) ∧ Below w.heap.size w w' := by
  have HT : Hid (TlbAt w v t) := h
  obtain ⟨a, cap, rfl, _⟩ := h
  have n1 := ((Below.refl w.heap.size w).alloc (Nat.le_refl _) (Obj.cells #[.int .i64 t.sets, .int .i64 t.ways, .slice a t.es.length cap] 63)).alloc (by simp) (Obj.cells #[.bool false, .int .i64 0, .int .i64 0, .int .u64 0] 68)
  have HT1 : Hid (TlbAt ((w.alloc (Obj.cells #[.int .i64 t.sets, .int .i64 t.ways, .slice a t.es.length cap] 63)).alloc (Obj.cells #[.bool false, .int .i64 0, .int .i64 0, .int .u64 0] 68)) (.agg #[.int .i64 t.sets, .int .i64 t.ways, .slice a t.es.length cap]) t) := HT.out.keep n1
  have H1 : Hid (((w.alloc (Obj.cells #[.int .i64 t.sets, .int .i64 t.ways, .slice a t.es.length cap] 63)).alloc (Obj.cells #[.bool false, .int .i64 0, .int .i64 0, .int .u64 0] 68)).heap[w.heap.size]? = some (.cells #[.int .i64 t.sets, .int .i64 t.ways, .slice a t.es.length cap] 63 (0, 0))) := by
    show _ = _
    rw [heap_alloc_old _ _ (by simp)]
    exact heap_alloc_new w _
  have H2 : Hid (((w.alloc (Obj.cells #[.int .i64 t.sets, .int .i64 t.ways, .slice a t.es.length cap] 63)).alloc (Obj.cells #[.bool false, .int .i64 0, .int .i64 0, .int .u64 0] 68)).heap[w.heap.size + 1]? = some (.cells #[.bool false, .int .i64 0, .int .i64 0, .int .u64 0] 68 (0, 0))) := by
    have := heap_alloc_new (w.alloc (Obj.cells #[.int .i64 t.sets, .int .i64 t.ways, .slice a t.es.length cap] 63)) (Obj.cells #[.bool false, .int .i64 0, .int .i64 0, .int .u64 0] 68)
    simp only [World.size_alloc] at this
    exact this
  have l1 : w.heap.size + 1 < ((w.alloc (Obj.cells #[.int .i64 t.sets, .int .i64 t.ways, .slice a t.es.length cap] 63)).alloc (Obj.cells #[.bool false, .int .i64 0, .int .i64 0, .int .u64 0] 68)).heap.size := by simp
  clear HT
  obtain ⟨q, hq⟩ : ∃ q, validM t false = q := ⟨_, rfl⟩
  obtain ⟨q2, hq2⟩ : ∃ q, validM t true = q := ⟨_, rfl⟩
  have HE : Hid (eitherM t = (q2 || q)) := by show _ = _; unfold eitherM; rw [hq, hq2]
  obtain ⟨X, hX⟩ : ∃ X, hitM t va asid = X := ⟨_, rfl⟩
  have HZ : Hid (q = false → q2 = false → X = (false, 0, 0, 0)) := fun h1 h2 => by
    rw [← hX]; unfold hitM; rw [if_pos (by rw [HE.out, h1, h2]; rfl)]
  have HL : Hid (∀ u, TlbAt u (.agg #[.int .i64 t.sets, .int .i64 t.ways, .slice a t.es.length cap]) t → Calls Try.prog 101 #[.agg #[.int .i64 t.sets, .int .i64 t.ways, .slice a t.es.length cap], .int .u64 va, .int .u64 asid] u fun e w' => HitAns q X e ∧ Below u.heap.size u w') := fun u hu => by
    have := hitInL_any _ t va asid u hu hv0 hv1
    rw [hq, hX] at this
    exact this
  have HP : Hid (∀ u, TlbAt u (.agg #[.int .i64 t.sets, .int .i64 t.ways, .slice a t.es.length cap]) t → Calls Try.prog 102 #[.agg #[.int .i64 t.sets, .int .i64 t.ways, .slice a t.es.length cap], .int .u64 va, .int .u64 asid] u fun e w' => HitAns q2 X e ∧ Below u.heap.size u w') := fun u hu => by
    have := hitInP_any _ t va asid u hu hv0 hv1
    rw [hq2, hX] at this
    exact this
  rw [hX]
  clear hX hq hq2 HE
  obtain ⟨f, i, l, pt⟩ := X
  go_enter Try.func47, Try.ntmps47
  go_wp2_with fail
  generalize ((w.alloc (Obj.cells #[.int .i64 t.sets, .int .i64 t.ways, .slice a t.es.length cap] 63)).alloc (Obj.cells #[.bool false, .int .i64 0, .int .i64 0, .int .u64 0] 68)) = v1 at n1 HT1 H1 H2 l1 ⊢
  refine (HL.out v1 HT1.out).mono ?_
  rintro e v2 ⟨he, n2⟩
  unfold HitAns at he
  have A2 := Below.step n1 n2 (Nat.le_refl _)
  have HT2 : Hid (TlbAt v2 (.agg #[.int .i64 t.sets, .int .i64 t.ways, .slice a t.es.length cap]) t) := HT1.out.keep n2
  have K1 := hid_keep H1 n2
  have K2 := hid_keep H2 n2
  have l2 : w.heap.size + 1 < v2.heap.size := Nat.lt_of_lt_of_le l1 n2.size
  clear n1 n2 H1 H2 HT1 HL
  obtain ⟨⟨c0, c1, c2⟩, _, _, _⟩ := three_cells K1.out
  obtain ⟨⟨d0, d1, d2, d3⟩, e0, e1, e2, e3⟩ := four_cells K2.out
  cases q
  · subst he
    simp only [hitIf, Bool.false_eq_true, if_false]
    have n3 := (Below.refl v2.heap.size v2).alloc (Nat.le_refl _) (Obj.cells #[.bool false, .int .i64 0, .int .i64 0, .int .u64 0] 68)
    have HT3 : Hid (TlbAt (v2.alloc (Obj.cells #[.bool false, .int .i64 0, .int .i64 0, .int .u64 0] 68)) (.agg #[.int .i64 t.sets, .int .i64 t.ways, .slice a t.es.length cap]) t) := HT2.out.keep n3
    have K3 := hid_keep K2 n3
    have A3 := Below.step A2 n3 (Nat.le_refl _)
    have l0 : w.heap.size < v2.heap.size := by omega
    have l3 : w.heap.size + 1 < (v2.alloc (Obj.cells #[.bool false, .int .i64 0, .int .i64 0, .int .u64 0] 68)).heap.size := by simp; omega
    go_wp2_with fail
    generalize v2.alloc (Obj.cells #[.bool false, .int .i64 0, .int .i64 0, .int .u64 0] 68) = v3 at HT3 K3 A3 l3 ⊢
    refine (HP.out v3 HT3.out).mono ?_
    rintro e v4 ⟨he, n4⟩
    unfold HitAns at he
    have A4 := Below.step A3 n4 (Nat.le_refl _)
    have K4 := hid_keep K3 n4
    have l4 : w.heap.size + 1 < v4.heap.size := Nat.lt_of_lt_of_le l3 n4.size
    clear n3 n4 HT2 HT3 K1 K2 K3 A2 A3 HP c0 c1 c2 d0 d1 d2 d3 e0 e1 e2 e3
    obtain ⟨⟨d0, d1, d2, d3⟩, e0, e1, e2, e3⟩ := four_cells K4.out
    subst he
    cases q2
    · have hz := HZ.out (by trivial) (by trivial)
      simp only [Prod.mk.injEq] at hz
      obtain ⟨rfl, rfl, rfl, rfl⟩ := hz
      simp only [hitIf, Bool.false_eq_true, if_false]
      go_wp2_with fail
      exact bodyPost_ret (v := .agg #[.bool false, .int .i64 0, .int .i64 0, .int .u64 0]) (by simp [results, Try.results47, go_sem, d0, d1, d2, d3, l4]) rfl ⟨rfl, by first | exact (belH4 A4 (by omega) _ _ _ _).alloc (by simp; omega) _ | exact belH4 (A4.alloc A4.size _) (by omega) _ _ _ _⟩
    · simp only [hitIf, if_true]
      go_wp2_with fail
      exact bodyPost_ret (v := .agg #[.bool f, .int .i64 i, .int .i64 l, .int .u64 pt]) (by simp [results, Try.results47, go_sem, d0, d1, d2, d3, l4]) rfl ⟨rfl, by first | exact (belH4 A4 (by omega) _ _ _ _).alloc (by simp; omega) _ | exact belH4 (A4.alloc A4.size _) (by omega) _ _ _ _⟩
  · subst he
    simp only [hitIf, if_true]
    go_wp2_with fail
    exact bodyPost_ret (v := .agg #[.bool f, .int .i64 i, .int .i64 l, .int .u64 pt]) (by simp [results, Try.results47, go_sem, d0, d1, d2, d3, l2]) rfl ⟨rfl, by first | exact (belH4 A2 (by omega) _ _ _ _).alloc (by simp; omega) _ | exact belH4 (A2.alloc A2.size _) (by omega) _ _ _ _⟩

end Go.Proofs.Ythekickjjaleaab

/- The walk of law FnExactLookup. -/
namespace Go.Proofs.Ythekickjjaleaab
open Go.RowKit
set_option linter.unusedVariables false

set_option maxHeartbeats 1600000 in
theorem lookup_walk (sets ways : Int) (a : Option Addr) (cap : Nat) (es : List EntM) (va asid : Int) (w : World) (hr : RowC w a es.length 6 (entsC es)) (he : ∀ e ∈ es, entOk e)
    (hs : -9223372036854775808 ≤ sets ∧ sets ≤ 9223372036854775807) (hw : -9223372036854775808 ≤ ways ∧ ways ≤ 9223372036854775807) (hlc : es.length ≤ cap) (hcm : (cap : Int) ≤ 9223372036854775807) (bv : 0 ≤ va ∧ va ≤ 18446744073709551615) (ba : 0 ≤ asid ∧ asid ≤ 18446744073709551615) :
    Calls Try.prog 12 #[.agg #[.int .i64 sets, .int .i64 ways, .slice a es.length cap], .int .u64 va, .int .u64 asid] w fun e w' => e = .returned (.bool true) ∧ Below w.heap.size w w' := by
  obtain ⟨n, hn⟩ : ∃ n, es.length = n := ⟨_, rfl⟩
  have HN : Hid (es.length = n) := hn
  rw [hn] at hr hlc ⊢
  have n1 := (Below.refl w.heap.size w).alloc (Nat.le_refl _) (Obj.cells #[.int .i64 sets, .int .i64 ways, .slice a n cap] 58)
  have H1 : Hid ((w.alloc (Obj.cells #[.int .i64 sets, .int .i64 ways, .slice a n cap] 58)).heap[w.heap.size]? = some (.cells #[.int .i64 sets, .int .i64 ways, .slice a n cap] 58 (0, 0))) := heap_alloc_new w _
  have HR : Hid (RowC w a n 6 (entsC es)) := hr
  clear hr hn
  obtain ⟨⟨f, i, l, pt⟩, hX⟩ : ∃ X, hitM ⟨sets, ways, es⟩ va asid = X := ⟨_, rfl⟩
  have HSp : Hid (∀ v u, TlbAt u v ⟨sets, ways, es⟩ → Calls Try.prog 46 #[v, .int .u64 va, .int .u64 asid] u fun e w' => e = .returned (.agg #[.bool f, .int .i64 i, .int .i64 l, .int .u64 pt]) ∧ Below u.heap.size u w') := fun v u hu => by
    have := specLookup_any v _ va asid u hu bv.1 bv.2
    rw [hX] at this
    exact this
  have HIm : Hid (∀ v u, TlbAt u v ⟨sets, ways, es⟩ → Calls Try.prog 47 #[v, .int .u64 va, .int .u64 asid] u fun e w' => e = .returned (.agg #[.bool f, .int .i64 i, .int .i64 l, .int .u64 pt]) ∧ Below u.heap.size u w') := fun v u hu => by
    have := implLookup_any v _ va asid u hu bv.1 bv.2
    rw [hX] at this
    exact this
  clear hX
  by_cases hl : n ≤ 1048576
  · have HK : Hid (tlbOk ⟨sets, ways, es⟩) := ⟨he, hs, hw, by simp only; rw [HN.out]; exact hl⟩
    clear he
    go_enter Try.func12, Try.ntmps12
    go_wp2_with fail
    generalize w.alloc (Obj.cells #[.int .i64 sets, .int .i64 ways, .slice a n cap] 58) = v1 at n1 H1 ⊢
    refine (szTlb_any sets ways a n cap 1048576 v1 (by omega) (by omega) (by omega)).mono ?_
    rintro e v2 ⟨rfl, n2⟩
    rw [if_neg (by omega)]
    have A2 := Below.step n1 n2 (Nat.le_refl _)
    have H2 := hid_keep H1 n2
    clear n1 n2 H1
    obtain ⟨⟨c0, c1, c2⟩, _, _, _⟩ := three_cells H2.out
    go_wp2_with fail
    refine (toTlb_any sets ways a n cap es v2 (HR.out.keep A2) HN.out hl).mono ?_
    rintro e v3 ⟨⟨x, rfl, hx⟩, n3⟩
    have T3 := TlbOwn.at hx HK.out
    have A3 := Below.step A2 n3 (Nat.le_refl _)
    have H3 := hid_keep H2 n3
    clear c0 c1 c2 n3 H2 A2 hx
    go_wp2_with fail
    refine (HSp.out _ v3 T3).mono ?_
    rintro e z4 ⟨rfl, m4⟩
    have n4 := m4.alloc m4.size (Obj.cells #[.bool f, .int .i64 i, .int .i64 l, .int .u64 pt] 68)
    have W4 : Hid ((z4.alloc (Obj.cells #[.bool f, .int .i64 i, .int .i64 l, .int .u64 pt] 68)).heap[z4.heap.size]? = some (.cells #[.bool f, .int .i64 i, .int .i64 l, .int .u64 pt] 68 (0, 0))) := heap_alloc_new z4 _
    have C4 := three_cells (hid_keep H3 m4).out
    have lz : w.heap.size < z4.heap.size := (Array.getElem?_eq_some_iff.1 (hid_keep H3 m4).out).1
    have A4 := Below.step A3 n4 (Nat.le_refl _)
    have H4 := hid_keep H3 n4
    clear n4 m4 H3 A3 T3
    obtain ⟨⟨c0, c1, c2⟩, _, _, _⟩ := C4
    go_wp2_with fail
    generalize z4.alloc (Obj.cells #[.bool f, .int .i64 i, .int .i64 l, .int .u64 pt] 68) = v4 at W4 A4 H4 ⊢
    refine (toTlb_any sets ways a n cap es v4 (HR.out.keep A4) HN.out hl).mono ?_
    rintro e v5 ⟨⟨x, rfl, hx⟩, n5⟩
    obtain ⟨gx, cx, rfl, rx, _, lx⟩ := TlbOwn.row hx
    have T5 := TlbOwn.at hx HK.out
    simp only at rx T5 ⊢
    rw [HN.out] at rx T5 ⊢
    have RX5 : Hid (RowC v5 (some ⟨gx, 0, none⟩) n 6 (entsC es)) := rx
    have A5 := Below.step A4 n5 (Nat.le_refl _)
    have H5 := hid_keep H4 n5
    have W5 := hid_keep W4 n5
    clear n5 H4 A4 hx rx c0 c1 c2
    go_wp2_with fail
    have n6 := (Below.refl v5.heap.size v5).alloc (Nat.le_refl _) (Obj.cells #[.int .i64 sets, .int .i64 ways, .slice (some ⟨gx, 0, none⟩) n cx] 63)
    have X6 : Hid ((v5.alloc (Obj.cells #[.int .i64 sets, .int .i64 ways, .slice (some ⟨gx, 0, none⟩) n cx] 63)).heap[v5.heap.size]? = some (.cells #[.int .i64 sets, .int .i64 ways, .slice (some ⟨gx, 0, none⟩) n cx] 63 (0, 0))) := heap_alloc_new v5 _
    have H6 := hid_keep H5 n6
    have W6 := hid_keep W5 n6
    have A6 := Below.step A5 n6 (Nat.le_refl _)
    have T6 := T5.keep n6
    have RX6 : Hid _ := RowC.keep RX5.out n6
    generalize v5.alloc (Obj.cells #[.int .i64 sets, .int .i64 ways, .slice (some ⟨gx, 0, none⟩) n cx] 63) = v6 at n6 X6 H6 W6 A6 T6 RX6 ⊢
    clear n6 H5 A5 T5 RX5
    refine (HIm.out _ v6 T6).mono ?_
    rintro e z7 ⟨rfl, m7⟩
    have n7 := m7.alloc m7.size (Obj.cells #[.bool f, .int .i64 i, .int .i64 l, .int .u64 pt] 68)
    have G7 : Hid ((z7.alloc (Obj.cells #[.bool f, .int .i64 i, .int .i64 l, .int .u64 pt] 68)).heap[z7.heap.size]? = some (.cells #[.bool f, .int .i64 i, .int .i64 l, .int .u64 pt] 68 (0, 0))) := heap_alloc_new z7 _
    have H7 := hid_keep H6 n7
    have X7 := hid_keep X6 n7
    have W7 := hid_keep W6 n7
    have RX7 : Hid _ := RowC.keep RX6.out n7
    have A7 := Below.step A6 n7 (Nat.le_refl _)
    have Y7 := four_cells (hid_keep W6 m7).out
    have ly : z4.heap.size < z7.heap.size := (Array.getElem?_eq_some_iff.1 (hid_keep W6 m7).out).1
    clear n7 m7 H6 X6 RX6 A6 T6 W6
    obtain ⟨⟨j0, j1, j2, j3⟩, _, _, _, _⟩ := Y7
    go_wp2_with fail
    generalize z7.alloc (Obj.cells #[.bool f, .int .i64 i, .int .i64 l, .int .u64 pt] 68) = z8 at G7 H7 X7 W7 RX7 A7 ⊢
    refine (eqHit_same f i l pt z8).mono ?_
    rintro e v7 ⟨rfl, m8⟩
    replace H7 := hid_keep H7 m8
    replace X7 := hid_keep X7 m8
    replace RX7 : Hid _ := RowC.keep RX7.out m8
    replace A7 := Below.step A7 m8 (Nat.le_refl _)
    clear m8 W7 G7 j0 j1 j2 j3
    obtain ⟨⟨c0, c1, c2⟩, _, _, _⟩ := three_cells H7.out
    obtain ⟨⟨d0, d1, d2⟩, _, _, _⟩ := three_cells X7.out
    have D7 : Below v7.heap.size v7 v7.drew := (Below.refl _ _).drew
    have A7d := Below.step A7 D7 (Nat.le_refl _)
    go_wp2_with fail
    go_region_held3 (fun w' => w'.cell? ⟨w.heap.size, 0, none⟩ = some (.int .i64 sets) ∧ w'.cell? ⟨w.heap.size, 1, none⟩ = some (.int .i64 ways) ∧ w'.cell? ⟨w.heap.size, 2, none⟩ = some (.slice a n cap) ∧ w'.cell? ⟨v5.heap.size, 0, none⟩ = some (.int .i64 sets) ∧ w'.cell? ⟨v5.heap.size, 1, none⟩ = some (.int .i64 ways) ∧ w'.cell? ⟨v5.heap.size, 2, none⟩ = some (.slice (some ⟨gx, 0, none⟩) n cx)) (go_keep)
      (first
        | (go_at_call 43; refine (toTlb_any sets ways a n cap es v7.drew (HR.out.keep A7d) HN.out hl).mono ?_; rintro e v8 ⟨⟨y, rfl, hy⟩, n8⟩; have hy' := TlbOwn.row hy; obtain ⟨gy, cy, rfl, ry, _, _⟩ := hy'; (simp only at ry ⊢); rw [HN.out] at ry ⊢; have N8 := Below.step D7 n8 (Nat.le_refl _); have RX8 : Hid _ := RowC.keep RX7.out N8; have RY8 : Hid (RowC v8 (some ⟨gy, 0, none⟩) n 6 (entsC es)) := ry; have A8 := Below.step A7 N8 (Nat.le_refl _); have kk1 := three_cells (hid_keep H7 N8).out; have kk2 := three_cells (hid_keep X7 N8).out; obtain ⟨⟨a0, a1, a2⟩, _, _, _⟩ := kk1; obtain ⟨⟨b0, b1, b2⟩, _, _, _⟩ := kk2; clear ry hy n8)
        | (go_at_call 45; refine (eqTlb_same sets ways (some ⟨gx, 0, none⟩) (some ⟨gy, 0, none⟩) n cx cy es v8 RX8.out RY8.out HN.out hl).mono ?_; rintro e v9 ⟨rfl, n9⟩; have A9 := Below.step A8 n9 (Nat.le_refl _); have N9 := Below.step N8 n9 (Nat.le_refl _); have kk1 := three_cells (hid_keep H7 N9).out; have kk2 := three_cells (hid_keep X7 N9).out; obtain ⟨⟨a0', a1', a2'⟩, _, _, _⟩ := kk1; obtain ⟨⟨b0', b1', b2'⟩, _, _, _⟩ := kk2))
    all_goals
      go_wp2_with fail
      go_ret
      exact ⟨rfl, A9⟩
  · go_enter Try.func12, Try.ntmps12
    go_wp2_with fail
    generalize w.alloc (Obj.cells #[.int .i64 sets, .int .i64 ways, .slice a n cap] 58) = v1 at n1 H1 ⊢
    refine (szTlb_any sets ways a n cap 1048576 v1 (by omega) (by omega) (by omega)).mono ?_
    rintro e v2 ⟨rfl, n2⟩
    rw [if_pos (by omega)]
    have A2 := Below.step n1 n2 (Nat.le_refl _)
    go_wp2_with fail
    go_ret
    exact ⟨rfl, A2⟩

end Go.Proofs.Ythekickjjaleaab
