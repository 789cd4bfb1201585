/- The specification's walk: a pointer, then the whole; Walk. -/
import Derived.Test.YthekickjjaleaabSpec3
namespace Go.Proofs.Ythekickjjaleaab
open Go.RowKit
set_option linter.unusedVariables false

set_option maxRecDepth 20000 in
set_option maxHeartbeats 3200000 in
/-- A pointer: the walk goes on. -/
theorem l3From_next (a : Option Addr) (len cap : Nat) (zs : List Int) (va lv n ix rv : Int) (w : World) (hl : len ≤ 1048576) (hc : len ≤ cap) (hm : cap ≤ 9223372036854775807) (hv0 : 0 ≤ va) (hv1 : va ≤ 18446744073709551615)
    (h0 : 0 ≤ lv) (h2 : lv ≤ 2) (hn0 : 0 ≤ n) (hn1 : n < 17592186044416) (hB : Byt w a len zs) (hix : Hid (idxM va lv = ix)) (hib : 0 ≤ ix ∧ ix ≤ 7) (hrv : Hid (rdV zs (64 * n + 8 * ix) 8 = rv)) (hrb : 0 ≤ rv ∧ rv ≤ 18446744073709551615)
    (hg : Hid (goodB len (64 * n + 8 * ix) 8 = true)) (hk : Hid (kindM rv lv = 1)) (NX : Int × Int × Int × List RecM) (hlen : NX.2.2.2.length ≤ 2) (h1 : 1 ≤ lv)
    (hnx : Hid (∀ w' : World, Byt w' a len zs →
      Calls Try.prog 82 #[.slice a len cap, .int .u64 (ppnM rv), .int .i64 (lv - 1), .int .u64 va] w' fun e w'' => WalkAt w'.heap.size w'' e NX ∧ Below w'.heap.size w' w'')) :
    Calls Try.prog 82 #[.slice a len cap, .int .u64 n, .int .i64 lv, .int .u64 va] w fun e w' =>
      WalkAt w.heap.size w' e (NX.1, NX.2.1, NX.2.2.1, (lv, 64 * n + 8 * ix, rv) :: NX.2.2.2) ∧ Below w.heap.size w w' := by
  have hz := hB.1
  have H8 : Hid ((w.alloc (Obj.cells #[Value.int .i64 0, Value.int .i64 0, Value.int .u64 0, Value.slice none 0 0] 42)).heap[w.heap.size]? = some (.cells #[Value.int .i64 0, Value.int .i64 0, Value.int .u64 0, Value.slice none 0 0] 42 (0, 0))) := heap_alloc_new _ _
  have n1 := (Below.refl w.heap.size w).alloc (Nat.le_refl _) (Obj.cells #[Value.int .i64 0, Value.int .i64 0, Value.int .u64 0, Value.slice none 0 0] 42)
  have l1 : w.heap.size < (w.alloc (Obj.cells #[Value.int .i64 0, Value.int .i64 0, Value.int .u64 0, Value.slice none 0 0] 42)).heap.size := by simp
  go_enter Try.func82, Try.ntmps82
  go_wp2_with fail
  generalize w.alloc (Obj.cells #[Value.int .i64 0, Value.int .i64 0, Value.int .u64 0, Value.slice none 0 0] 42) = v1 at H8 n1 l1 ⊢
  refine (l3Index_at va lv v1 hv0 hv1 h0 h2).mono ?_
  rintro e w' ⟨rfl, nq, rfl⟩
  rw [hix.out]
  have n2 : Below w.heap.size w (v1.drewN nq) := below_drewN n1 nq
  have H9 : Hid ((v1.drewN nq).heap[w.heap.size]? = some (.cells #[Value.int .i64 0, Value.int .i64 0, Value.int .u64 0, Value.slice none 0 0] 42 (0, 0))) := H8
  have l2 : w.heap.size < (v1.drewN nq).heap.size := l1
  generalize v1.drewN nq = v2 at n2 H9 l2 ⊢
  clear H8 l1 n1
  go_wp2_with fail
  refine (specRead_any a len cap zs (64 * n + 8 * ix) 8 v2 (hB.keep n2) hl hc hm (by omega) (by omega) (by omega)).mono ?_
  rintro e v3 ⟨rfl, n3⟩
  rw [hrv.out, hg.out]
  have n13 := Below.step n2 n3 (Nat.le_refl _)
  have H10 : Hid (v3.heap[w.heap.size]? = some (.cells #[Value.int .i64 0, Value.int .i64 0, Value.int .u64 0, Value.slice none 0 0] 42 (0, 0))) := heap_keep H9.out n3 l2
  have l3 : w.heap.size < v3.heap.size := Nat.lt_of_lt_of_le l2 n3.size
  clear H9 n2 n3 l2
  go_wp2_with fail
  have a4 := alloc_facts v3 #[Value.bool true, Value.int IntKind.u64 rv] 25
  generalize v3.alloc (Obj.cells #[Value.bool true, Value.int IntKind.u64 rv] 25) = v4 at a4 ⊢
  obtain ⟨l4, c4, n4⟩ := a4
  have c41 : v4.cell? ⟨v3.heap.size, 1, none⟩ = some (.int .u64 rv) := c4 1
  have n14 := Below.step n13 n4 (Nat.le_refl _)
  have H11 : Hid (v4.heap[w.heap.size]? = some (.cells #[Value.int .i64 0, Value.int .i64 0, Value.int .u64 0, Value.slice none 0 0] 42 (0, 0))) := heap_keep H10.out n4 l3
  clear c4 n13 n4 H10
  refine (specPteKind_at rv lv v4 hrb.1 hrb.2 (by omega) (by omega)).mono ?_
  rintro e w' ⟨rfl, nk, rfl⟩
  rw [hk.out]
  have n15 : Below w.heap.size w (v4.drewN nk) := below_drewN n14 nk
  have c51 : (v4.drewN nk).cell? ⟨v3.heap.size, 1, none⟩ = some (.int .u64 rv) := c41
  have H12 : Hid ((v4.drewN nk).heap[w.heap.size]? = some (.cells #[Value.int .i64 0, Value.int .i64 0, Value.int .u64 0, Value.slice none 0 0] 42 (0, 0))) := H11
  have l5 : v3.heap.size < (v4.drewN nk).heap.size := l4
  generalize v4.drewN nk = v5 at n15 c51 H12 l5 ⊢
  clear n14 c41 H11 l4
  go_wp2_with fail
  refine (l2Ppn_at rv v5 hrb.1 hrb.2).mono ?_
  rintro e w' ⟨rfl, np, rfl⟩
  have n16 : Below w.heap.size w (v5.drewN np) := below_drewN n15 np
  have c61 : (v5.drewN np).cell? ⟨v3.heap.size, 1, none⟩ = some (.int .u64 rv) := c51
  have H13 : Hid ((v5.drewN np).heap[w.heap.size]? = some (.cells #[Value.int .i64 0, Value.int .i64 0, Value.int .u64 0, Value.slice none 0 0] 42 (0, 0))) := H12
  have l6 : v3.heap.size < (v5.drewN np).heap.size := l5
  generalize v5.drewN np = v6 at n16 c61 H13 l6 ⊢
  clear n15 c51 H12 l5
  go_wp2_with fail
  refine (hnx.out v6 (hB.keep n16)).mono ?_
  rintro e v7 ⟨⟨a7, c7, rfl, r7, na7, sp7, nc7⟩, n7⟩
  obtain ⟨x1, x2, x3, rs⟩ := NX
  simp only at r7 na7 nc7 hlen ⊢
  have n17 := Below.step n16 n7 (Nat.le_refl _)
  have c71 := Below.cell2 n7 c61 l6
  have H14 : Hid (v7.heap[w.heap.size]? = some (.cells #[Value.int .i64 0, Value.int .i64 0, Value.int .u64 0, Value.slice none 0 0] 42 (0, 0))) := heap_keep H13.out n7 (by omega)
  have l7 : v3.heap.size < v7.heap.size := Nat.lt_of_lt_of_le l6 n7.size
  clear n16 n7 c61 H13 l6
  have l8 : w.heap.size < v7.heap.size := Nat.lt_trans l3 l7
  go_wp2_with fail
  have H15 : Hid ((v7.alloc (Obj.cells #[Value.int .i64 x1, Value.int .i64 x2, Value.int .u64 x3, Value.slice a7 rs.length c7] 42)).heap[v7.heap.size]? = some (.cells #[Value.int .i64 x1, Value.int .i64 x2, Value.int .u64 x3, Value.slice a7 rs.length c7] 42 (0, 0))) := heap_alloc_new _ _
  have n8 := (Below.refl v7.heap.size v7).alloc (Nat.le_refl _) (Obj.cells #[Value.int .i64 x1, Value.int .i64 x2, Value.int .u64 x3, Value.slice a7 rs.length c7] 42)
  have l9 : v7.heap.size < (v7.alloc (Obj.cells #[Value.int .i64 x1, Value.int .i64 x2, Value.int .u64 x3, Value.slice a7 rs.length c7] 42)).heap.size := by simp
  generalize v7.alloc (Obj.cells #[Value.int .i64 x1, Value.int .i64 x2, Value.int .u64 x3, Value.slice a7 rs.length c7] 42) = v8 at H15 n8 l9 ⊢
  have n18 := Below.step n17 n8 (Nat.le_refl _)
  have c81 := Below.cell2 n8 c71 l7
  have H16 : Hid (v8.heap[w.heap.size]? = some (.cells #[Value.int .i64 0, Value.int .i64 0, Value.int .u64 0, Value.slice none 0 0] 42 (0, 0))) := heap_keep H14.out n8 l8
  have HR : Hid (RowC v8 a7 rs.length 3 (recsC rs)) := r7.keep n8
  have HN : Hid (a7 = none → rs.length = 0 ∧ c7 = 0) := na7
  have HSp : Hid (∀ q, a7 = some q → q.spot = none ∧ v6.heap.size ≤ q.block) := sp7
  clear r7 na7 sp7 n17 n8 c71 H14
  have q3 := (four_cells H15.out).1.2.2.2
  have p3 := (four_cells H15.out).2.2.2.2
  have ne1 : v8.heap.size ≠ v3.heap.size := by omega
  have ne2 : v8.heap.size ≠ v7.heap.size := by omega
  have ne4 : v7.heap.size ≠ v8.heap.size := by omega
  go_region_law (first
    | (refine step_append_c _ (by rfl) (.tmp 59) (.tmp 61) 40 (by rfl) 161 Try.underlying40 (.agg #[.int .i64 0, .int .u64 0, .int .u64 0]) 3 24 Try.infoRec (by rfl) (by decide) v8.heap.size v8.heap.size 1 1 (recsC [(lv, 64 * n + 8 * ix, rv)]) (by rfl) (OwnC.new 161 3 v8.drew (recsC [(lv, 64 * n + 8 * ix, rv)]) 1 (by rfl) (by decide)) a7 rs.length c7 (recsC rs) (by rfl) HN.out (fun q hq => (HSp.out q hq).1) (RowC.keep (w := v8) HR.out ((Below.refl _ _).drew.alloc (Nat.le_refl _) _)) (recsC_one rs) (by omega) (by omega) v8.heap.size v8 ((Below.refl _ _).drew.alloc (Nat.le_refl _) _) (Nat.le_refl _) ?_; intro g9 c9 v9 o9 n9; have q9 := Below.cell2 n9 q3 l9; have p9 := Below.froz2 n9 p3 l9)
    | (go_simp; go_at_call 123; refine (l3Rec_any _ _ _ _).mono ?_; rintro e w' ⟨rfl, rfl⟩))
  all_goals
    have k9 := heap_keep H15.out n9 l9
    have k9' := set3 (u := .slice (some ⟨g9, 0, none⟩) (1 + rs.length) c9) k9
    have m9 := gb_set (gb_refl v9 (some v7.heap.size)) 3 (.slice (some ⟨g9, 0, none⟩) (1 + rs.length) c9)
    have f9 := o9.facts
    have n19 : Below w.heap.size w v9 := Below.step n18 n9 (Nat.le_refl _)
    have n110 := Below.gb n19 m9 (by omega) (Nat.lt_of_lt_of_le l9 n9.size)
    have b9 := heap_gb (heap_keep H16.out n9 (by omega)) m9 (by omega)
    have r9 := o9.row.gb m9 (by omega)
    generalize v9.setCell ⟨v7.heap.size, 3, none⟩ (.slice (some ⟨g9, 0, none⟩) (1 + rs.length) c9) = v10 at k9' m9 n110 b9 r9 ⊢
    obtain ⟨⟨d0, d1, d2, d3⟩, e0, e1, e2, e3⟩ := four_cells b9
    obtain ⟨⟨t0, t1, t2, t3⟩, _⟩ := four_cells k9'
    have HR9 : Hid (RowC v10 (some ⟨g9, 0, none⟩) (1 + rs.length) 3 (recsC [(lv, 64 * n + 8 * ix, rv)] ++ recsC rs)) := r9
    clear k9 k9' m9 q9 p9 o9 n9 n19 b9 r9 q3 p3 c81
    go_wp2_with fail
    refine bodyPost_ret (v := .agg #[.int .i64 x1, .int .i64 x2, .int .u64 x3, .slice (some ⟨g9, 0, none⟩) (1 + rs.length) c9]) (by simp [results, Try.results82, go_sem, d0, d1, d2, d3]) rfl ?_
    have e10 : 1 + rs.length = rs.length + 1 := Nat.add_comm _ _
    rw [e10] at HR9 f9 ⊢
    exact ⟨⟨some ⟨g9, 0, none⟩, c9, rfl, RowC.gb HR9.out (gb4 v10 w.heap.size _ _ _ _) (by omega), (by intro h; cases h), (by intro q hq; cases hq; exact ⟨rfl, by show w.heap.size ≤ g9; omega⟩), f9.2.2.2.1⟩, bel4 n110 (Nat.le_refl _) _ _ _ _⟩

end Go.Proofs.Ythekickjjaleaab
