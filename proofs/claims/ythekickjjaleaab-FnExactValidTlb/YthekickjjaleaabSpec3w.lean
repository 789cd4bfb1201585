/- The specification's walk, whole: l3From, Walk. -/
import Derived.Test.YthekickjjaleaabSpec3n
namespace Go.Proofs.Ythekickjjaleaab
open Go.RowKit
set_option linter.unusedVariables false

theorem fromM_len (zs : List Int) (va : Int) : ∀ (l : Nat) (n : Int), (fromM zs va l n).2.2.2.length ≤ l + 1
  | 0, n => by
    unfold fromM
    split
    · simp
    · split
      · simp
      · split <;> simp
  | l + 1, n => by
    unfold fromM
    split
    · simp
    · split
      · simp
      · split
        · simp
        · have := fromM_len zs va l (ppnM (rdV zs (64 * n + 8 * idxM va ((l + 1 : Nat) : Int)) 8))
          simp only [List.length_cons]
          omega

theorem l3From_any (a : Option Addr) (len cap : Nat) (zs : List Int) (va : Int) (hl : len ≤ 1048576) (hc : len ≤ cap) (hm : cap ≤ 9223372036854775807) (hv0 : 0 ≤ va) (hv1 : va ≤ 18446744073709551615) (l : Nat) :
    ∀ (n lv : Int) (w : World), lv = l → l ≤ 2 → 0 ≤ n → n < 17592186044416 → Byt w a len zs →
    Calls Try.prog 82 #[.slice a len cap, .int .u64 n, .int .i64 lv, .int .u64 va] w fun e w' => WalkAt w.heap.size w' e (fromM zs va l n) ∧ Below w.heap.size w w' := by
  induction l with
  | zero =>
    intro n lv w e hl2 hn0 hn1 hB
    subst e
    have hz := hB.1
    have hib := idxM_bd va ((0 : Nat) : Int)
    have hrb := rdV_bd zs (64 * n + 8 * idxM va ((0 : Nat) : Int)) 8 (by omega) hB.2.1
    unfold fromM
    rw [hz]
    cases hg : goodB len (64 * n + 8 * idxM va ((0 : Nat) : Int)) 8
    · rw [if_pos rfl]
      exact l3From_out a len cap zs va _ n _ _ w hl hc hm hv0 hv1 (by omega) (by omega) hn0 hn1 hB rfl hib rfl hrb hg
    · rw [if_neg (by simp)]
      rcases kindM_012 (rdV zs (64 * n + 8 * idxM va ((0 : Nat) : Int)) 8) ((0 : Nat) : Int) with hk | hk | hk
      · rw [if_pos hk]
        exact l3From_bad a len cap zs va _ n _ _ w hl hc hm hv0 hv1 (by omega) (by omega) hn0 hn1 hB rfl hib rfl hrb hg hk
      · exact absurd hk (kindM_zero _)
      · rw [if_neg (by rw [hk]; decide), if_pos hk]
        exact l3From_leaf a len cap zs va _ n _ _ w hl hc hm hv0 hv1 (by omega) (by omega) hn0 hn1 hB rfl hib rfl hrb hg hk
  | succ l ih =>
    intro n lv w e hl2 hn0 hn1 hB
    subst e
    have hz := hB.1
    have hib := idxM_bd va ((l + 1 : Nat) : Int)
    have hrb := rdV_bd zs (64 * n + 8 * idxM va ((l + 1 : Nat) : Int)) 8 (by omega) hB.2.1
    unfold fromM
    rw [hz]
    cases hg : goodB len (64 * n + 8 * idxM va ((l + 1 : Nat) : Int)) 8
    · rw [if_pos rfl]
      exact l3From_out a len cap zs va _ n _ _ w hl hc hm hv0 hv1 (by omega) (by omega) hn0 hn1 hB rfl hib rfl hrb hg
    · rw [if_neg (by simp)]
      rcases kindM_012 (rdV zs (64 * n + 8 * idxM va ((l + 1 : Nat) : Int)) 8) ((l + 1 : Nat) : Int) with hk | hk | hk
      · rw [if_pos hk]
        exact l3From_bad a len cap zs va _ n _ _ w hl hc hm hv0 hv1 (by omega) (by omega) hn0 hn1 hB rfl hib rfl hrb hg hk
      · rw [if_neg (by rw [hk]; decide), if_neg (by rw [hk]; decide)]
        have hp := ppnM_bd (rdV zs (64 * n + 8 * idxM va ((l + 1 : Nat) : Int)) 8)
        exact l3From_next a len cap zs va _ n _ _ w hl hc hm hv0 hv1 (by omega) (by omega) hn0 hn1 hB rfl hib rfl hrb hg hk
          (fromM zs va l (ppnM (rdV zs (64 * n + 8 * idxM va ((l + 1 : Nat) : Int)) 8))) (by have := fromM_len zs va l (ppnM (rdV zs (64 * n + 8 * idxM va ((l + 1 : Nat) : Int)) 8)); omega) (by omega)
          (fun w' hB' => ih _ _ w' (by omega) (by omega) hp.1 hp.2 hB')
      · rw [if_neg (by rw [hk]; decide), if_pos hk]
        exact l3From_leaf a len cap zs va _ n _ _ w hl hc hm hv0 hv1 (by omega) (by omega) hn0 hn1 hB rfl hib rfl hrb hg hk

set_option maxHeartbeats 800000 in
theorem specWalk_any (a : Option Addr) (len cap : Nat) (zs : List Int) (root va : Int) (w : World) (hl : len ≤ 1048576) (hc : len ≤ cap) (hm : cap ≤ 9223372036854775807) (hr0 : 0 ≤ root) (hr1 : root ≤ 18446744073709551615) (hv0 : 0 ≤ va) (hv1 : va ≤ 18446744073709551615) (hB : Byt w a len zs) :
    Calls Try.prog 32 #[.slice a len cap, .int .u64 root, .int .u64 va] w fun e w' => WalkAt w.heap.size w' e (walkM zs root va) ∧ Below w.heap.size w w' := by
  have H8 : Hid ((w.alloc (Obj.cells #[Value.int .i64 0, Value.int .i64 0, Value.int .u64 0, Value.slice none 0 0] 42)).heap[w.heap.size]? = some (.cells #[Value.int .i64 0, Value.int .i64 0, Value.int .u64 0, Value.slice none 0 0] 42 (0, 0))) := heap_alloc_new _ _
  have n1 := (Below.refl w.heap.size w).alloc (Nat.le_refl _) (Obj.cells #[Value.int .i64 0, Value.int .i64 0, Value.int .u64 0, Value.slice none 0 0] 42)
  have l1 : w.heap.size < (w.alloc (Obj.cells #[Value.int .i64 0, Value.int .i64 0, Value.int .u64 0, Value.slice none 0 0] 42)).heap.size := by simp
  unfold walkM
  cases hcn : canonM va
  · rw [if_pos rfl]
    have HC : Hid (canonM va = false) := hcn
    clear hcn
    go_enter Try.func32, Try.ntmps32
    go_wp2_with fail
    generalize w.alloc (Obj.cells #[Value.int .i64 0, Value.int .i64 0, Value.int .u64 0, Value.slice none 0 0] 42) = v1 at H8 n1 l1 ⊢
    refine (specCanonical_at va v1 hv0 hv1).mono ?_
    rintro e w' ⟨rfl, nq, rfl⟩
    rw [HC.out]
    have n2 : Below w.heap.size w (v1.drewN nq) := below_drewN n1 nq
    have H9 : Hid ((v1.drewN nq).heap[w.heap.size]? = some (.cells #[Value.int .i64 0, Value.int .i64 0, Value.int .u64 0, Value.slice none 0 0] 42 (0, 0))) := H8
    generalize v1.drewN nq = v2 at n2 H9 ⊢
    obtain ⟨⟨d0, d1, d2, d3⟩, e0, e1, e2, e3⟩ := four_cells H9.out
    go_wp2_with fail
    refine bodyPost_ret (v := .agg #[.int .i64 2, .int .i64 2, .int .u64 0, .slice none 0 0]) (by simp [results, Try.results32, go_sem, d0, d1, d2, d3]) rfl ⟨⟨none, 0, rfl, RowC.nil _ _ _, fun _ => ⟨rfl, rfl⟩, (by intro q hq; cases hq), Nat.zero_le _⟩, bel4 n2 (Nat.le_refl _) _ _ _ _⟩
  · rw [if_neg (by simp)]
    have HC : Hid (canonM va = true) := hcn
    clear hcn
    obtain ⟨X, hX⟩ : ∃ X, fromM zs va 2 (root % 17592186044416) = X := ⟨_, rfl⟩
    have HX : Hid (fromM zs va 2 (root % 17592186044416) = X) := hX
    rw [hX]
    clear hX
    obtain ⟨x1, x2, x3, rs⟩ := X
    go_enter Try.func32, Try.ntmps32
    go_wp2_with fail
    generalize w.alloc (Obj.cells #[Value.int .i64 0, Value.int .i64 0, Value.int .u64 0, Value.slice none 0 0] 42) = v1 at H8 n1 l1 ⊢
    refine (specCanonical_at va v1 hv0 hv1).mono ?_
    rintro e w' ⟨rfl, nq, rfl⟩
    rw [HC.out]
    have n2 : Below w.heap.size w (v1.drewN nq) := below_drewN n1 nq
    have H9 : Hid ((v1.drewN nq).heap[w.heap.size]? = some (.cells #[Value.int .i64 0, Value.int .i64 0, Value.int .u64 0, Value.slice none 0 0] 42 (0, 0))) := H8
    have l2 : w.heap.size < (v1.drewN nq).heap.size := l1
    generalize v1.drewN nq = v2 at n2 H9 l2 ⊢
    clear n1 H8 l1
    go_wp2_with fail
    refine (l2Bits_at root 0 43 1 17592186044416 v2 hr0 hr1 (by omega) (by omega) (by omega) (by omega) rfl rfl).mono ?_
    rintro e w' ⟨rfl, nr, rfl⟩
    have n3 : Below w.heap.size w (v2.drewN nr) := below_drewN n2 nr
    have H10 : Hid ((v2.drewN nr).heap[w.heap.size]? = some (.cells #[Value.int .i64 0, Value.int .i64 0, Value.int .u64 0, Value.slice none 0 0] 42 (0, 0))) := H9
    have l3 : w.heap.size < (v2.drewN nr).heap.size := l2
    generalize v2.drewN nr = v3 at n3 H10 l3 ⊢
    clear n2 H9 l2
    rw [Int.ediv_one]
    have hb0 : 0 ≤ root % 17592186044416 ∧ root % 17592186044416 < 17592186044416 := ⟨Int.emod_nonneg _ (by omega), Int.emod_lt_of_pos _ (by omega)⟩
    go_wp2_with fail
    refine (l3From_any a len cap zs va hl hc hm hv0 hv1 2 _ 2 v3 rfl (by omega) hb0.1 hb0.2 (hB.keep n3)).mono ?_
    rintro e v4 ⟨hw, n4⟩
    rw [HX.out] at hw
    obtain ⟨a4, c4, rfl, r4, na4, sp4, nc4⟩ := hw
    simp only at r4 na4 nc4 ⊢
    have n14 := Below.step n3 n4 (Nat.le_refl _)
    have H11 : Hid _ := heap_keep H10.out n4 l3
    have l4 : w.heap.size < v4.heap.size := Nat.lt_of_lt_of_le l3 n4.size
    obtain ⟨⟨d0, d1, d2, d3⟩, e0, e1, e2, e3⟩ := four_cells (heap_keep H10.out n4 l3)
    have HR4 : Hid (RowC v4 a4 rs.length 3 (recsC rs)) := r4
    have HN4 : Hid (a4 = none → rs.length = 0 ∧ c4 = 0) := na4
    have HS4 : Hid (∀ q, a4 = some q → q.spot = none ∧ v3.heap.size ≤ q.block) := sp4
    clear r4 na4 sp4 H10 H11 n3 n4
    go_wp2_with fail
    refine bodyPost_ret (v := .agg #[.int .i64 x1, .int .i64 x2, .int .u64 x3, .slice a4 rs.length c4]) (by simp [results, Try.results32, go_sem, d0, d1, d2, d3]) rfl ⟨⟨a4, c4, rfl, RowC.gb' HR4.out (gb4 v4 w.heap.size _ _ _ _) (fun q hq => by have := (HS4.out q hq).2; omega), HN4.out, (fun q hq => ⟨(HS4.out q hq).1, by have := (HS4.out q hq).2; omega⟩), nc4⟩, bel4 n14 (Nat.le_refl _) _ _ _ _⟩

end Go.Proofs.Ythekickjjaleaab
