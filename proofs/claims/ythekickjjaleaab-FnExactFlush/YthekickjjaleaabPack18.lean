import Derived.Test.YthekickjjaleaabPack14
import Derived.Test.YthekickjjaleaabPack17
import Derived.Test.YthekickjjaleaabPack10
import Derived.Test.YthekickjjaleaabPack06
import Derived.Test.YthekickjjaleaabPack05
/- The program's Flush. -/
namespace Go.Proofs.Ythekickjjaleaab
open Go.RowKit
set_option linter.unusedVariables false

theorem tlb_keepF {base : Nat} {w w' : World} {v : Value} {t : TlbM} {g : Nat} (h : TlbOwn base w v t) (hg : w.grownBy w' (some g)) (hb : g < base) : TlbOwn base w' v t := by
  obtain ⟨q, c, rfl, o⟩ := h
  exact ⟨q, c, rfl, own_gb o hg hb⟩

theorem tlb_lowF {base base' : Nat} {w : World} {v : Value} {t : TlbM} (h : TlbOwn base w v t) (hb : base' ≤ base) : TlbOwn base' w v t := by
  obtain ⟨q, c, rfl, o⟩ := h
  exact ⟨q, c, rfl, own_low o hb⟩

set_option maxHeartbeats 3200000 in
theorem implFlush_any (v : Value) (t : TlbM) (f : FenceM) (w : World) (h : TlbAt w v t) (hf0 : 0 ≤ f.va) (hf1 : f.va ≤ 18446744073709551615) :
    Calls Try.prog 56 #[v, .agg #[.bool f.hasVa, .int .u64 f.va, .bool f.hasAsid, .int .u64 f.asid]] w fun e w' => (∃ y, e = .returned y ∧ TlbOwn w.heap.size w' y (flushM t f)) ∧ Below w.heap.size w w' := by
  have HT : Hid (TlbAt w v t) := h
  obtain ⟨a, cap, rfl, _⟩ := h
  obtain ⟨hv, fva, ha, fa⟩ := f
  obtain ⟨sets, ways, es⟩ := t
  simp only at *
  obtain ⟨n, hn⟩ : ∃ n, es.length = n := ⟨_, rfl⟩
  rw [hn] at HT ⊢
  clear hn
  have n1 := (((Below.refl w.heap.size w).alloc (Nat.le_refl _) (Obj.cells #[.int .i64 sets, .int .i64 ways, .slice a n cap] 63)).alloc (by simp) (Obj.cells #[.bool hv, .int .u64 fva, .bool ha, .int .u64 fa] 82)).alloc (by simp; omega) (Obj.cells #[.int .i64 0, .int .i64 0, .slice none 0 0] 63)
  have HT1 : Hid (TlbAt (((w.alloc (Obj.cells #[.int .i64 sets, .int .i64 ways, .slice a n cap] 63)).alloc (Obj.cells #[.bool hv, .int .u64 fva, .bool ha, .int .u64 fa] 82)).alloc (Obj.cells #[.int .i64 0, .int .i64 0, .slice none 0 0] 63)) (.agg #[.int .i64 sets, .int .i64 ways, .slice a n cap]) ⟨sets, ways, es⟩) := HT.out.keep n1
  have H1 : Hid ((((w.alloc (Obj.cells #[.int .i64 sets, .int .i64 ways, .slice a n cap] 63)).alloc (Obj.cells #[.bool hv, .int .u64 fva, .bool ha, .int .u64 fa] 82)).alloc (Obj.cells #[.int .i64 0, .int .i64 0, .slice none 0 0] 63)).heap[w.heap.size]? = some (.cells #[.int .i64 sets, .int .i64 ways, .slice a n cap] 63 (0, 0))) := by
    show _ = _
    rw [heap_alloc_old _ _ (by simp; omega), heap_alloc_old _ _ (by simp)]
    exact heap_alloc_new w _
  have H3 : Hid ((((w.alloc (Obj.cells #[.int .i64 sets, .int .i64 ways, .slice a n cap] 63)).alloc (Obj.cells #[.bool hv, .int .u64 fva, .bool ha, .int .u64 fa] 82)).alloc (Obj.cells #[.int .i64 0, .int .i64 0, .slice none 0 0] 63)).heap[w.heap.size + 1 + 1]? = some (.cells #[.int .i64 0, .int .i64 0, .slice none 0 0] 63 (0, 0))) := by
    have := heap_alloc_new ((w.alloc (Obj.cells #[.int .i64 sets, .int .i64 ways, .slice a n cap] 63)).alloc (Obj.cells #[.bool hv, .int .u64 fva, .bool ha, .int .u64 fa] 82)) (Obj.cells #[.int .i64 0, .int .i64 0, .slice none 0 0] 63)
    simp only [World.size_alloc] at this
    exact this
  have l1 : w.heap.size + 1 + 1 < (((w.alloc (Obj.cells #[.int .i64 sets, .int .i64 ways, .slice a n cap] 63)).alloc (Obj.cells #[.bool hv, .int .u64 fva, .bool ha, .int .u64 fa] 82)).alloc (Obj.cells #[.int .i64 0, .int .i64 0, .slice none 0 0] 63)).heap.size := by simp
  obtain ⟨qL, hqL⟩ : ∃ q, validM ⟨sets, ways, es⟩ false = q := ⟨_, rfl⟩
  obtain ⟨qP, hqP⟩ : ∃ q, validM ⟨sets, ways, es⟩ true = q := ⟨_, rfl⟩
  obtain ⟨Y, hY⟩ : ∃ Y, es.map (struckM ⟨hv, fva, ha, fa⟩) = Y := ⟨_, rfl⟩
  obtain ⟨R, hR⟩ : ∃ R, flushM ⟨sets, ways, es⟩ ⟨hv, fva, ha, fa⟩ = R := ⟨_, rfl⟩
  have HRt : Hid ((qL = true ∨ qP = true) → R = ⟨sets, ways, Y⟩) := fun h1 => by
    rw [← hR, ← hY]
    unfold flushM eitherM
    rw [hqL, hqP, if_pos (by rcases h1 with h1 | h1 <;> rw [h1] <;> simp)]
  have HRf : Hid ((qL = false ∧ qP = false) → R = ⟨sets, ways, es⟩) := fun h1 => by
    rw [← hR]
    unfold flushM eitherM
    rw [hqL, hqP, h1.1, h1.2, if_neg (by simp)]
  have HL : Hid (∀ cv u, TlbAt u (.agg #[.int .i64 sets, .int .i64 ways, .slice a n cap]) ⟨sets, ways, es⟩ → CovVal u.heap.size u cv ⟨hv, fva, ha, fa⟩ → Calls Try.prog 112 #[.agg #[.int .i64 sets, .int .i64 ways, .slice a n cap], cv] u fun e w' => cond qL (FluAnsL u.heap.size w' e ⟨sets, ways, Y⟩) (e = .returned (.tuple #[.agg #[.int .i64 0, .int .i64 0, .slice none 0 0], .bool false])) ∧ Below u.heap.size u w') := fun cv u hu hc => by
    have := flushedInL_any _ ⟨sets, ways, es⟩ cv ⟨hv, fva, ha, fa⟩ u hu hc hf0 hf1
    rw [hqL, hY] at this
    exact this
  have HP : Hid (∀ cv u, TlbAt u (.agg #[.int .i64 sets, .int .i64 ways, .slice a n cap]) ⟨sets, ways, es⟩ → CovVal u.heap.size u cv ⟨hv, fva, ha, fa⟩ → Calls Try.prog 113 #[.agg #[.int .i64 sets, .int .i64 ways, .slice a n cap], cv] u fun e w' => cond qP (FluAnsP u.heap.size w' e ⟨sets, ways, Y⟩) (e = .returned (.tuple #[.agg #[.int .i64 0, .int .i64 0, .slice none 0 0], .bool false])) ∧ Below u.heap.size u w') := fun cv u hu hc => by
    have := flushedInP_any _ ⟨sets, ways, es⟩ cv ⟨hv, fva, ha, fa⟩ u hu hc hf0 hf1
    rw [hqP, hY] at this
    exact this
  have HC : Hid (∀ u, TlbAt u (.agg #[.int .i64 sets, .int .i64 ways, .slice a n cap]) ⟨sets, ways, es⟩ → Calls Try.prog 105 #[.agg #[.int .i64 sets, .int .i64 ways, .slice a n cap]] u fun e w' => (∃ y, e = .returned y ∧ TlbOwn u.heap.size w' y ⟨sets, ways, es⟩) ∧ Below u.heap.size u w') := fun u hu => copiedTlb_any _ ⟨sets, ways, es⟩ u hu
  rw [hR]
  clear hqL hqP hY hR HT
  go_enter Try.func56, Try.ntmps56
  go_wp2_with fail
  generalize (((w.alloc (Obj.cells #[.int .i64 sets, .int .i64 ways, .slice a n cap] 63)).alloc (Obj.cells #[.bool hv, .int .u64 fva, .bool ha, .int .u64 fa] 82)).alloc (Obj.cells #[.int .i64 0, .int .i64 0, .slice none 0 0] 63)) = v0 at n1 HT1 H1 H3 l1 ⊢
  refine (coverageOf_any hv fva ha fa v0 hf0 hf1).mono ?_
  rintro e v1 ⟨hcov, n0⟩
  obtain ⟨cv, rfl, hcv⟩ := hcov.val
  have HCv : Hid (CovVal v1.heap.size v1 cv ⟨hv, fva, ha, fa⟩) := hcv
  replace H1 := hid_keep H1 n0
  replace H3 := hid_keep H3 n0
  replace HT1 : Hid (TlbAt v1 (.agg #[.int .i64 sets, .int .i64 ways, .slice a n cap]) ⟨sets, ways, es⟩) := HT1.out.keep n0
  replace n1 := Below.step n1 n0 (Nat.le_refl _)
  replace l1 : w.heap.size + 1 + 1 < v1.heap.size := Nat.lt_of_lt_of_le l1 n0.size
  clear hcov hcv n0
  obtain ⟨⟨c0, c1, c2⟩, _, _, _⟩ := three_cells H1.out
  go_wp2_with fail
  refine (HL.out cv v1 HT1.out HCv.out).mono ?_
  rintro e v2 ⟨hc, n2⟩
  have A2 := Below.step n1 n2 (Nat.le_refl _)
  have K1 := hid_keep H1 n2
  have J2 := hid_keep H3 n2
  have T2 : TlbAt v2 (.agg #[.int .i64 sets, .int .i64 ways, .slice a n cap]) ⟨sets, ways, es⟩ := HT1.out.keep n2
  have C2 := HCv.out.keep n2
  have l2 : w.heap.size + 1 + 1 < v2.heap.size := Nat.lt_of_lt_of_le l1 n2.size
  have n2' := n2.size
  clear n2 n1 HT1 H1 H3 HCv c0 c1 c2 HL
  cases qL
  · dsimp only [cond] at hc
    subst hc
    have n3 := (Below.refl v2.heap.size v2).alloc (Nat.le_refl _) (Obj.cells #[.int .i64 0, .int .i64 0, .slice none 0 0] 63)
    have A3 := Below.step A2 n3 (Nat.le_refl _)
    have P1 := hid_keep K1 n3
    have J3 := hid_keep J2 n3
    have T3 := T2.keep n3
    have C3 := C2.keep n3
    have m0 : w.heap.size < v2.heap.size := by omega
    have l3 : w.heap.size + 1 + 1 < (v2.alloc (Obj.cells #[.int .i64 0, .int .i64 0, .slice none 0 0] 63)).heap.size := by simp; omega
    obtain ⟨⟨c0, c1, c2⟩, _, _, _⟩ := three_cells K1.out
    go_wp2_with fail
    generalize v2.alloc (Obj.cells #[.int .i64 0, .int .i64 0, .slice none 0 0] 63) = v3 at n3 A3 P1 J3 T3 C3 l3 ⊢
    refine (HP.out cv v3 T3 (C3.up (Nat.le_trans n2' n3.size))).mono ?_
    rintro e v4 ⟨hc, n4⟩
    have A4 := Below.step A3 n4 (Nat.le_refl _)
    have J4 := hid_keep J3 n4
    have R1 := hid_keep P1 n4
    have T4 := T3.keep n4
    have l4 : w.heap.size + 1 + 1 < v4.heap.size := Nat.lt_of_lt_of_le l3 n4.size
    have n4s := n4.size
    have n3s := n3.size
    clear n3 n4 A3 J3 P1 T3 K1 J2 T2 A2 C2 C3 c0 c1 c2
    cases qP
    · dsimp only [cond] at hc
      subst hc
      have hr := HRf.out ⟨by trivial, by trivial⟩
      subst hr
      have n5 := (Below.refl v4.heap.size v4).alloc (Nat.le_refl _) (Obj.cells #[.int .i64 0, .int .i64 0, .slice none 0 0] 63)
      have A5 := Below.step A4 n5 (Nat.le_refl _)
      have J5 := hid_keep J4 n5
      have T5 := T4.keep n5
      have l5 : w.heap.size + 1 + 1 < (v4.alloc (Obj.cells #[.int .i64 0, .int .i64 0, .slice none 0 0] 63)).heap.size := by simp; omega
      have m2 : w.heap.size < v4.heap.size := by omega
      obtain ⟨⟨c0, c1, c2⟩, _, _, _⟩ := three_cells R1.out
      go_wp2_with fail
      generalize v4.alloc (Obj.cells #[.int .i64 0, .int .i64 0, .slice none 0 0] 63) = v5 at n5 A5 J5 T5 l5 ⊢
      refine (HC.out v5 T5).mono ?_
      rintro e v6 ⟨⟨y, rfl, hy⟩, n6⟩
      have J6 := hid_keep J5 n6
      have A6 := Below.step A5 n6 (Nat.le_refl _)
      have hy2 := hy
      obtain ⟨gy, cy, rfl, _⟩ := hy2
      obtain ⟨⟨d0, d1, d2⟩, e0, e1, e2⟩ := three_cells J6.out
      simp only at hy ⊢
      go_wp2_with fail
      exact bodyPost_ret (v := .agg #[.int .i64 sets, .int .i64 ways, .slice (some ⟨gy, 0, none⟩) es.length cy]) (by simp [results, Try.results56, go_sem, d0, d1, d2]) rfl ⟨⟨_, rfl, tlb_lowF (tlb_keepF hy (gb3 v6 (w.heap.size + 1 + 1) _ _ _) (by omega)) (by omega)⟩, bel3 A6 (by omega) _ _ _⟩
    · dsimp only [cond] at hc
      have hr := HRt.out (.inr (by trivial))
      subst hr
      obtain ⟨y, rfl, hy⟩ := hc
      have hy2 := hy
      obtain ⟨gy, cy, rfl, oy⟩ := hy2
      have hgy := (own_at oy).2.2
      simp only at hy hgy ⊢
      obtain ⟨⟨d0, d1, d2⟩, e0, e1, e2⟩ := three_cells J4.out
      go_wp2_with fail
      exact bodyPost_ret (v := .agg #[.int .i64 sets, .int .i64 ways, .slice (some ⟨gy, 0, none⟩) Y.length cy]) (by simp [results, Try.results56, go_sem, d0, d1, d2, l4]) rfl ⟨⟨_, rfl, tlb_lowF (TlbOwn.keep (tlb_keepF hy (gb3 v4 (w.heap.size + 1 + 1) _ _ _) (by omega)) ((Below.refl _ _).alloc (Nat.le_refl _) _)) (by omega)⟩, (bel3 A4 (by omega) _ _ _).alloc (by simp; omega) _⟩
  · dsimp only [cond] at hc
    have hr := HRt.out (.inl (by trivial))
    subst hr
    obtain ⟨y, rfl, hy⟩ := hc
    have hy2 := hy
    obtain ⟨gy, cy, rfl, oy⟩ := hy2
    have hgy := (own_at oy).2.2
    simp only at hy hgy ⊢
    obtain ⟨⟨d0, d1, d2⟩, e0, e1, e2⟩ := three_cells J2.out
    go_wp2_with fail
    exact bodyPost_ret (v := .agg #[.int .i64 sets, .int .i64 ways, .slice (some ⟨gy, 0, none⟩) Y.length cy]) (by simp [results, Try.results56, go_sem, d0, d1, d2, l2]) rfl ⟨⟨_, rfl, tlb_lowF (TlbOwn.keep (tlb_keepF hy (gb3 v2 (w.heap.size + 1 + 1) _ _ _) (by omega)) ((Below.refl _ _).alloc (Nat.le_refl _) _)) (by omega)⟩, (bel3 A2 (by omega) _ _ _).alloc (by simp; omega) _⟩

end Go.Proofs.Ythekickjjaleaab

/- The law's toFence. -/
namespace Go.Proofs.Ythekickjjaleaab
open Go.RowKit
set_option linter.unusedVariables false

theorem toFence_any (hv : Bool) (fva : Int) (ha : Bool) (fa : Int) (w : World) :
    Calls Try.prog 55 #[.agg #[.bool hv, .int .u64 fva, .bool ha, .int .u64 fa]] w fun e w' => e = .returned (.agg #[.bool hv, .int .u64 fva, .bool ha, .int .u64 fa]) ∧ Below w.heap.size w w' := by
  go_enter Try.func55, Try.ntmps55
  go_wp2_with fail
  exact bodyPost_ret (v := .agg #[.bool hv, .int .u64 fva, .bool ha, .int .u64 fa]) (by simp [results, Try.results55, go_sem]) rfl ⟨rfl, (((Below.refl _ _).alloc (Nat.le_refl _) _).alloc (by simp) _).alloc (by simp; omega) _⟩

end Go.Proofs.Ythekickjjaleaab

/- A cell of a block that is known. No program is named here. -/
namespace Go.Proofs.Ythekickjjaleaab
open Go.RowKit

theorem cell_of {v : World} {p : Nat} {cs : Array Value} {T : TypeId} (h : v.heap[p]? = some (.cells cs T (0, 0))) (i : Nat) (x : Value) (hx : cs[i]? = some x) : v.cell? ⟨p, i, none⟩ = some x := by
  simp [World.cell?, h, hx]

theorem three_setL {v : World} {p : Nat} {T : TypeId} {a b c x y z : Value} (h : v.heap[p]? = some (.cells #[a, b, c] T (0, 0))) : (((v.setCell ⟨p, 0, none⟩ x).setCell ⟨p, 1, none⟩ y).setCell ⟨p, 2, none⟩ z).heap[p]? = some (.cells #[x, y, z] T (0, 0)) := by
  simp [World.setCell, Array.getElem?_modify, h]

end Go.Proofs.Ythekickjjaleaab
