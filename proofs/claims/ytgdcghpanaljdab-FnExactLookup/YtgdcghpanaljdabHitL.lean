/- The program's hitIn, for one kind of cache. Written by mk4.py. -/
import Derived.Test.YtgdcghpanaljdabCacheL
import Derived.Test.YtgdcghpanaljdabFindL
import Derived.Test.YtgdcghpanaljdabSpec4c
namespace Go.Proofs.Ytgdcghpanaljdab
open Go.RowKit
set_option linter.unusedVariables false

set_option maxHeartbeats 1600000 in
theorem hitInL_any (v : Value) (t : TlbM) (va asid : Int) (w : World) (h : TlbAt w v t) (hv0 : 0 ≤ va) (hv1 : va ≤ 18446744073709551615) :
    Calls Try.prog 101 #[v, .int .u64 va, .int .u64 asid] w fun e w' => HitAns (validM t false) (hitM t va asid) e ∧ Below w.heap.size w w' := by
  have HK : Hid (tlbOk t) := TlbAt.ok h
  have HT : Hid (TlbAt w v t) := h
  obtain ⟨a, cap, rfl, _⟩ := h
  have n1 := ((Below.refl w.heap.size w).alloc (Nat.le_refl _) (Obj.cells #[.int .i64 t.sets, .int .i64 t.ways, .slice a t.es.length cap] 63)).alloc (by simp) (Obj.cells #[.bool false, .int .i64 0, .int .i64 0, .int .u64 0] 68)
  have HT1 : Hid (TlbAt ((w.alloc (Obj.cells #[.int .i64 t.sets, .int .i64 t.ways, .slice a t.es.length cap] 63)).alloc (Obj.cells #[.bool false, .int .i64 0, .int .i64 0, .int .u64 0] 68)) (.agg #[.int .i64 t.sets, .int .i64 t.ways, .slice a t.es.length cap]) t) := HT.out.keep n1
  have H2 : Hid (((w.alloc (Obj.cells #[.int .i64 t.sets, .int .i64 t.ways, .slice a t.es.length cap] 63)).alloc (Obj.cells #[.bool false, .int .i64 0, .int .i64 0, .int .u64 0] 68)).heap[w.heap.size + 1]? = some (.cells #[.bool false, .int .i64 0, .int .i64 0, .int .u64 0] 68 (0, 0))) := by
    have := heap_alloc_new (w.alloc (Obj.cells #[.int .i64 t.sets, .int .i64 t.ways, .slice a t.es.length cap] 63)) (Obj.cells #[.bool false, .int .i64 0, .int .i64 0, .int .u64 0] 68)
    simp only [World.size_alloc] at this
    exact this
  have l1 : w.heap.size + 1 < ((w.alloc (Obj.cells #[.int .i64 t.sets, .int .i64 t.ways, .slice a t.es.length cap] 63)).alloc (Obj.cells #[.bool false, .int .i64 0, .int .i64 0, .int .u64 0] 68)).heap.size := by simp
  clear HT
  obtain ⟨q, hq⟩ : ∃ q, validM t false = q := ⟨_, rfl⟩
  have HQ : Hid (validM t false = q) := hq
  rw [hq]
  clear hq
  go_enter Try.func101, Try.ntmps101
  go_wp2_with fail
  generalize ((w.alloc (Obj.cells #[.int .i64 t.sets, .int .i64 t.ways, .slice a t.es.length cap] 63)).alloc (Obj.cells #[.bool false, .int .i64 0, .int .i64 0, .int .u64 0] 68)) = v1 at n1 HT1 H2 l1 ⊢
  refine (cacheOfL_any _ t v1 HT1.out).mono ?_
  rw [HQ.out]
  rintro e v2 ⟨hc, n2⟩
  have A2 := Below.step n1 n2 (Nat.le_refl _)
  have K2 := hid_keep H2 n2
  have l2 : w.heap.size + 1 < v2.heap.size := Nat.lt_of_lt_of_le l1 n2.size
  clear n1 n2 H2 HT1
  obtain ⟨⟨d0, d1, d2, d3⟩, e0, e1, e2, e3⟩ := four_cells K2.out
  cases q
  · dsimp only [cond] at hc
    subst hc
    go_wp2_with fail
    exact bodyPost_ret (v := .tuple #[.agg #[.bool false, .int .i64 0, .int .i64 0, .int .u64 0], .bool false]) (by simp [results, Try.results101, go_sem, d0, d1, d2, d3, l2]) rfl ⟨rfl, by first | exact (belH4 A2 (by omega) _ _ _ _).alloc (by simp; omega) _ | exact belH4 (A2.alloc A2.size _) (by omega) _ _ _ _⟩
  · dsimp only [cond] at hc
    obtain ⟨g, rfl, ho⟩ := hc
    have hg := own_at ho
    obtain ⟨_, hg1, hg2⟩ := hg
    simp only at hg1 hg2
    have n3 := (Below.refl v2.heap.size v2).alloc (Nat.le_refl _) (Obj.cells #[.int .i64 t.sets, .int .i64 t.ways, .slice (some ⟨g, 0, none⟩) t.es.length t.es.length] 129)
    have H3 : Hid ((v2.alloc (Obj.cells #[.int .i64 t.sets, .int .i64 t.ways, .slice (some ⟨g, 0, none⟩) t.es.length t.es.length] 129)).heap[v2.heap.size]? = some (.cells #[.int .i64 t.sets, .int .i64 t.ways, .slice (some ⟨g, 0, none⟩) t.es.length t.es.length] 129 (0, 0))) := heap_alloc_new v2 _
    have l3 : v2.heap.size < (v2.alloc (Obj.cells #[.int .i64 t.sets, .int .i64 t.ways, .slice (some ⟨g, 0, none⟩) t.es.length t.es.length] 129)).heap.size := by simp
    have R3 : Hid (RowC (v2.alloc (Obj.cells #[.int .i64 t.sets, .int .i64 t.ways, .slice (some ⟨g, 0, none⟩) t.es.length t.es.length] 129)) (some ⟨g, 0, none⟩) t.es.length 6 (slotsC t.es)) := (row_own ho).keep n3
    have K3 := hid_keep K2 n3
    have A3 := Below.step A2 n3 (Nat.le_refl _)
    clear ho n3 d0 d1 d2 d3 e0 e1 e2 e3
    go_wp2_with fail
    generalize v2.alloc (Obj.cells #[.int .i64 t.sets, .int .i64 t.ways, .slice (some ⟨g, 0, none⟩) t.es.length t.es.length] 129) = v3 at H3 l3 R3 K3 A3 ⊢
    obtain ⟨⟨p0, p1, p2⟩, _, _, _⟩ := three_cells H3.out
    refine (findL_any v2.heap.size 0 g t.es.length t va asid v3 rfl HK.out.2.2.2 HQ.out l3 p0 p1 p2 R3.out hv0 hv1).mono ?_
    obtain ⟨⟨f, i, l, pt⟩, hX⟩ : ∃ X, hitM t va asid = X := ⟨_, rfl⟩
    rw [hX]
    have HX : Hid (hitM t va asid = (f, i, l, pt)) := hX
    clear hX
    rintro e v4 ⟨rfl, n4⟩
    have A4 := Below.step A3 n4 (Nat.le_refl _)
    have K4 := hid_keep K3 n4
    have H4 := hid_keep H3 n4
    have R4 : Hid _ := R3.out.keep n4
    have l4 : v2.heap.size < v4.heap.size := Nat.lt_of_lt_of_le l3 n4.size
    clear n4 K3 H3 R3 A3 p0 p1 p2
    obtain ⟨⟨d0, d1, d2, d3⟩, e0, e1, e2, e3⟩ := four_cells K4.out
    obtain ⟨⟨p0, p1, p2⟩, _, _, _⟩ := three_cells H4.out
    cases f
    · have hz : (i, l, pt) = (0, 0, 0) := hit_zero HX.out
      simp only [Prod.mk.injEq] at hz
      obtain ⟨rfl, rfl, rfl⟩ := hz
      go_wp2_with fail
      exact bodyPost_ret (v := .tuple #[.agg #[.bool false, .int .i64 0, .int .i64 0, .int .u64 0], .bool true]) (by simp [results, Try.results101, go_sem, d0, d1, d2, d3]) rfl ⟨by unfold HitAns; rw [HX.out]; rfl, belH4 A4 (by omega) _ _ _ _⟩
    · obtain ⟨k, x, hx, hi, hlv, hpt, _, _⟩ := hit_get t va asid (by rw [HX.out])
      rw [HX.out] at hi hlv hpt
      simp only at hi hlv hpt
      subst hi hlv hpt
      have hkl : k < t.es.length := (List.getElem?_eq_some_iff.1 hx).1
      have hln := HK.out.2.2.2
      have CE : ∀ j u, j < 6 → (slotC x)[j]? = some u → v4.cell? ⟨g, k * 6 + j, none⟩ = some u := fun j u hj hu => slotRow_cell R4.out rfl k _ hx j u hj hu
      have g0 : v4.cell? ⟨g, k * 6, none⟩ = some (.int .i64 x.level) := CE 0 _ (by omega) rfl
      have g1 : v4.cell? ⟨g, k * 6 + 1, none⟩ = some (.int .u64 x.tag) := CE 1 _ (by omega) rfl
      have g2 : v4.cell? ⟨g, k * 6 + 2, none⟩ = some (.int .u64 x.asid) := CE 2 _ (by omega) rfl
      have g3 : v4.cell? ⟨g, k * 6 + 3, none⟩ = some (.bool x.glob) := CE 3 _ (by omega) rfl
      have g4 : v4.cell? ⟨g, k * 6 + 4, none⟩ = some (.bool x.valid) := CE 4 _ (by omega) rfl
      have g5 : v4.cell? ⟨g, k * 6 + 5, none⟩ = some (.int .u64 x.pte) := CE 5 _ (by omega) rfl
      clear CE hx R4
      have m1 : w.heap.size + 1 < v4.heap.size := by omega
      generalize x.level = lv at *
      generalize x.tag = tg at *
      generalize x.asid = asd at *
      generalize x.glob = gl at *
      generalize x.valid = vv at *
      generalize x.pte = pt at *
      go_wp2_with fail
      exact bodyPost_ret (v := .tuple #[.agg #[.bool true, .int .i64 k, .int .i64 lv, .int .u64 pt], .bool true]) (by simp [results, Try.results101, go_sem, d0, d1, d2, d3, m1]) rfl ⟨by unfold HitAns; rw [HX.out]; rfl, by first | exact (belH4 A4 (by omega) _ _ _ _).alloc (by simp; omega) _ | exact belH4 (A4.alloc A4.size _) (by omega) _ _ _ _⟩

end Go.Proofs.Ytgdcghpanaljdab
