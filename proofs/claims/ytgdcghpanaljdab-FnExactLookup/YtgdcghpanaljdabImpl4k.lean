/- The program's Lookup. -/
import Derived.Test.YtgdcghpanaljdabHitL
import Derived.Test.YtgdcghpanaljdabHitP
namespace Go.Proofs.Ytgdcghpanaljdab
open Go.RowKit
set_option linter.unusedVariables false

set_option maxHeartbeats 1600000 in
theorem implLookup_any (v : Value) (t : TlbM) (va asid : Int) (w : World) (h : TlbAt w v t) (hv0 : 0 ≤ va) (hv1 : va ≤ 18446744073709551615) :
    Calls Try.prog 47 #[v, .int .u64 va, .int .u64 asid] w fun e w' =>
      e = .returned (.agg #[.bool (hitM t va asid).1, .int .i64 (hitM t va asid).2.1, .int .i64 (hitM t va asid).2.2.1, .int .u64 (hitM t va asid).2.2.2]) ∧ Below w.heap.size w w' := by
  have HT : Hid (TlbAt w v t) := h
  obtain ⟨a, cap, rfl, _⟩ := h
  have n1 := ((Below.refl w.heap.size w).alloc (Nat.le_refl _) (Obj.cells #[.int .i64 t.sets, .int .i64 t.ways, .slice a t.es.length cap] 63)).alloc (by simp) (Obj.cells #[.bool false, .int .i64 0, .int .i64 0, .int .u64 0] 68)
  have HT1 : Hid (TlbAt ((w.alloc (Obj.cells #[.int .i64 t.sets, .int .i64 t.ways, .slice a t.es.length cap] 63)).alloc (Obj.cells #[.bool false, .int .i64 0, .int .i64 0, .int .u64 0] 68)) (.agg #[.int .i64 t.sets, .int .i64 t.ways, .slice a t.es.length cap]) t) := HT.out.keep n1
  have H1 : Hid (((w.alloc (Obj.cells #[.int .i64 t.sets, .int .i64 t.ways, .slice a t.es.length cap] 63)).alloc (Obj.cells #[.bool false, .int .i64 0, .int .i64 0, .int .u64 0] 68)).heap[w.heap.size]? = some (.cells #[.int .i64 t.sets, .int .i64 t.ways, .slice a t.es.length cap] 63 (0, 0))) := by
    show _ = _
    rw [heap_alloc_old _ _ (by simp)]
    exact heap_alloc_new w _
  have H2 : Hid (((w.alloc (Obj.cells #[.int .i64 t.sets, .int .i64 t.ways, .slice a t.es.length cap] 63)).alloc (Obj.cells #[.bool false, .int .i64 0, .int .i64 0, .int .u64 0] 68)).heap[w.heap.size + 1]? = some (.cells #[.bool false, .int .i64 0, .int .i64 0, .int .u64 0] 68 (0, 0))) := by
    have := heap_alloc_new (w.alloc (Obj.cells #[.int .i64 t.sets, .int .i64 t.ways, .slice a t.es.length cap] 63)) (Obj.cells #[.bool false, .int .i64 0, .int .i64 0, .int .u64 0] 68)
    simp only [World.size_alloc] at this
    exact this
  have l1 : w.heap.size + 1 < ((w.alloc (Obj.cells #[.int .i64 t.sets, .int .i64 t.ways, .slice a t.es.length cap] 63)).alloc (Obj.cells #[.bool false, .int .i64 0, .int .i64 0, .int .u64 0] 68)).heap.size := by simp
  clear HT
  obtain ⟨q, hq⟩ : ∃ q, validM t false = q := ⟨_, rfl⟩
  obtain ⟨q2, hq2⟩ : ∃ q, validM t true = q := ⟨_, rfl⟩
  have HE : Hid (eitherM t = (q2 || q)) := by show _ = _; unfold eitherM; rw [hq, hq2]
  obtain ⟨X, hX⟩ : ∃ X, hitM t va asid = X := ⟨_, rfl⟩
  have HZ : Hid (q = false → q2 = false → X = (false, 0, 0, 0)) := fun h1 h2 => by
    rw [← hX]; unfold hitM; rw [if_pos (by rw [HE.out, h1, h2]; rfl)]
  have HL : Hid (∀ u, TlbAt u (.agg #[.int .i64 t.sets, .int .i64 t.ways, .slice a t.es.length cap]) t → Calls Try.prog 101 #[.agg #[.int .i64 t.sets, .int .i64 t.ways, .slice a t.es.length cap], .int .u64 va, .int .u64 asid] u fun e w' => HitAns q X e ∧ Below u.heap.size u w') := fun u hu => by
    have := hitInL_any _ t va asid u hu hv0 hv1
    rw [hq, hX] at this
    exact this
  have HP : Hid (∀ u, TlbAt u (.agg #[.int .i64 t.sets, .int .i64 t.ways, .slice a t.es.length cap]) t → Calls Try.prog 102 #[.agg #[.int .i64 t.sets, .int .i64 t.ways, .slice a t.es.length cap], .int .u64 va, .int .u64 asid] u fun e w' => HitAns q2 X e ∧ Below u.heap.size u w') := fun u hu => by
    have := hitInP_any _ t va asid u hu hv0 hv1
    rw [hq2, hX] at this
    exact this
  rw [hX]
  clear hX hq hq2 HE
  obtain ⟨f, i, l, pt⟩ := X
  go_enter Try.func47, Try.ntmps47
  go_wp2_with fail
  generalize ((w.alloc (Obj.cells #[.int .i64 t.sets, .int .i64 t.ways, .slice a t.es.length cap] 63)).alloc (Obj.cells #[.bool false, .int .i64 0, .int .i64 0, .int .u64 0] 68)) = v1 at n1 HT1 H1 H2 l1 ⊢
  refine (HL.out v1 HT1.out).mono ?_
  rintro e v2 ⟨he, n2⟩
  unfold HitAns at he
  have A2 := Below.step n1 n2 (Nat.le_refl _)
  have HT2 : Hid (TlbAt v2 (.agg #[.int .i64 t.sets, .int .i64 t.ways, .slice a t.es.length cap]) t) := HT1.out.keep n2
  have K1 := hid_keep H1 n2
  have K2 := hid_keep H2 n2
  have l2 : w.heap.size + 1 < v2.heap.size := Nat.lt_of_lt_of_le l1 n2.size
  clear n1 n2 H1 H2 HT1 HL
  obtain ⟨⟨c0, c1, c2⟩, _, _, _⟩ := three_cells K1.out
  obtain ⟨⟨d0, d1, d2, d3⟩, e0, e1, e2, e3⟩ := four_cells K2.out
  cases q
  · subst he
    simp only [hitIf, Bool.false_eq_true, if_false]
    have n3 := (Below.refl v2.heap.size v2).alloc (Nat.le_refl _) (Obj.cells #[.bool false, .int .i64 0, .int .i64 0, .int .u64 0] 68)
    have HT3 : Hid (TlbAt (v2.alloc (Obj.cells #[.bool false, .int .i64 0, .int .i64 0, .int .u64 0] 68)) (.agg #[.int .i64 t.sets, .int .i64 t.ways, .slice a t.es.length cap]) t) := HT2.out.keep n3
    have K3 := hid_keep K2 n3
    have A3 := Below.step A2 n3 (Nat.le_refl _)
    have l0 : w.heap.size < v2.heap.size := by omega
    have l3 : w.heap.size + 1 < (v2.alloc (Obj.cells #[.bool false, .int .i64 0, .int .i64 0, .int .u64 0] 68)).heap.size := by simp; omega
    go_wp2_with fail
    generalize v2.alloc (Obj.cells #[.bool false, .int .i64 0, .int .i64 0, .int .u64 0] 68) = v3 at HT3 K3 A3 l3 ⊢
    refine (HP.out v3 HT3.out).mono ?_
    rintro e v4 ⟨he, n4⟩
    unfold HitAns at he
    have A4 := Below.step A3 n4 (Nat.le_refl _)
    have K4 := hid_keep K3 n4
    have l4 : w.heap.size + 1 < v4.heap.size := Nat.lt_of_lt_of_le l3 n4.size
    clear n3 n4 HT2 HT3 K1 K2 K3 A2 A3 HP c0 c1 c2 d0 d1 d2 d3 e0 e1 e2 e3
    obtain ⟨⟨d0, d1, d2, d3⟩, e0, e1, e2, e3⟩ := four_cells K4.out
    subst he
    cases q2
    · have hz := HZ.out (by trivial) (by trivial)
      simp only [Prod.mk.injEq] at hz
      obtain ⟨rfl, rfl, rfl, rfl⟩ := hz
      simp only [hitIf, Bool.false_eq_true, if_false]
      go_wp2_with fail
      exact bodyPost_ret (v := .agg #[.bool false, .int .i64 0, .int .i64 0, .int .u64 0]) (by simp [results, Try.results47, go_sem, d0, d1, d2, d3, l4]) rfl ⟨rfl, by first | exact (belH4 A4 (by omega) _ _ _ _).alloc (by simp; omega) _ | exact belH4 (A4.alloc A4.size _) (by omega) _ _ _ _⟩
    · simp only [hitIf, if_true]
      go_wp2_with fail
      exact bodyPost_ret (v := .agg #[.bool f, .int .i64 i, .int .i64 l, .int .u64 pt]) (by simp [results, Try.results47, go_sem, d0, d1, d2, d3, l4]) rfl ⟨rfl, by first | exact (belH4 A4 (by omega) _ _ _ _).alloc (by simp; omega) _ | exact belH4 (A4.alloc A4.size _) (by omega) _ _ _ _⟩
  · subst he
    simp only [hitIf, if_true]
    go_wp2_with fail
    exact bodyPost_ret (v := .agg #[.bool f, .int .i64 i, .int .i64 l, .int .u64 pt]) (by simp [results, Try.results47, go_sem, d0, d1, d2, d3, l2]) rfl ⟨rfl, by first | exact (belH4 A2 (by omega) _ _ _ _).alloc (by simp; omega) _ | exact belH4 (A2.alloc A2.size _) (by omega) _ _ _ _⟩

end Go.Proofs.Ytgdcghpanaljdab
