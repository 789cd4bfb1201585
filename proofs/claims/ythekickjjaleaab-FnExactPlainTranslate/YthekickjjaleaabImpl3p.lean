/- The program's Walk and PlainTranslate. -/
import Derived.Test.YthekickjjaleaabImpl3w
import Derived.Test.YthekickjjaleaabMath3b
namespace Go.Proofs.Ythekickjjaleaab
open Go.RowKit
set_option linter.unusedVariables false

/-- What the program's Walk answers, in memory: the records are its own. -/
def WalkOwn (base : Nat) (w' : World) (e : Ending) (r : Int × Int × Int × List RecM) : Prop :=
  ∃ ra rc, e = .returned (.agg #[.int .i64 r.1, .int .i64 r.2.1, .int .u64 r.2.2.1, .slice ra r.2.2.2.length rc]) ∧ w'.ownsRow base 161 3 (.slice ra r.2.2.2.length rc) r.2.2.2.length (recsC r.2.2.2)

set_option maxRecDepth 20000 in
theorem walkRoot_any (sv : Value) (zs : List Int) (va root : Int) (w : World) (hB : SrcAt w sv zs) (hv0 : 0 ≤ va) (hv1 : va ≤ 18446744073709551615) (hr0 : 0 ≤ root) (hr1 : root ≤ 18446744073709551615) :
    Calls Try.prog 83 #[sv, .int .u64 root, .int .u64 va] w fun e w' => FromAt w.heap.size w' e (walkM zs root va) ∧ Below w.heap.size w w' := by
  have b0 := (Below.refl w.heap.size w).alloc (Nat.le_refl _) (Obj.cells #[.int .i64 0, .int .u64 0, .slice none 0 0] 104)
  have r0 : Hid ((w.alloc (Obj.cells #[.int .i64 0, .int .u64 0, .slice none 0 0] 104)).heap[w.heap.size]? = some (.cells #[.int .i64 0, .int .u64 0, .slice none 0 0] 104 (0, 0))) := heap_alloc_new w _
  have HB : Hid (SrcAt w sv zs) := hB
  clear hB
  have hb0 : 0 ≤ root % 17592186044416 ∧ root % 17592186044416 < 17592186044416 := ⟨Int.emod_nonneg _ (by omega), Int.emod_lt_of_pos _ (by omega)⟩
  have HM : Hid (bits .and .u64 root 17592186044415 = root % 17592186044416) := mask_u64 44 root 17592186044415 rfl (by omega) hr0 hr1
  unfold walkM
  cases hcn : canonM va
  · rw [if_pos rfl]
    have HC : Hid (canonM va = false) := hcn
    clear hcn
    go_enter Try.func83, Try.ntmps83
    go_wp2_with fail
    generalize w.alloc (Obj.cells #[.int .i64 0, .int .u64 0, .slice none 0 0] 104) = v1 at b0 r0 ⊢
    refine (canonical_at va v1 hv0 hv1).mono ?_
    rintro e v2 ⟨rfl, rfl⟩
    rw [HC.out]
    obtain ⟨⟨d0, d1, d2⟩, f0, f1, f2⟩ := three_cells r0.out
    go_wp2_with fail
    refine bodyPost_ret (v := .tuple #[.agg #[.int .i64 2, .int .u64 0, .slice none 0 0], .iface 156 (.agg #[])]) (by simp [results, Try.results83, go_sem, d0, d1, d2]) rfl ?_
    exact ⟨⟨none, 0, rfl, World.ownsRow_nil _ _ _ _⟩, bel3 b0 (Nat.le_refl _) _ _ _⟩
  · rw [if_neg (by simp)]
    have HC : Hid (canonM va = true) := hcn
    clear hcn
    obtain ⟨X, hX⟩ : ∃ X, fromM zs va 2 (root % 17592186044416) = X := ⟨_, rfl⟩
    have HX : Hid (fromM zs va 2 (root % 17592186044416) = X) := hX
    rw [hX]
    clear hX
    go_enter Try.func83, Try.ntmps83
    go_wp2_with fail
    have l1 : w.heap.size < (w.alloc (Obj.cells #[.int .i64 0, .int .u64 0, .slice none 0 0] 104)).heap.size := by simp
    generalize w.alloc (Obj.cells #[.int .i64 0, .int .u64 0, .slice none 0 0] 104) = v1 at b0 r0 l1 ⊢
    refine (canonical_at va v1 hv0 hv1).mono ?_
    rintro e v2 ⟨rfl, rfl⟩
    rw [HC.out]
    go_wp2_with fail
    refine (lowBits_at 44 17592186044415 _ (by omega)).mono ?_
    rintro e v3 ⟨rfl, rfl⟩
    go_wp2_with fail
    rw [HM.out]
    refine (walkFrom_any sv zs va (root % 17592186044416) 2 v3 (HB.out.keep b0) (by omega) hv0 hv1 hb0.1 hb0.2).mono ?_
    rintro e v4 ⟨hw, n4⟩
    rw [HX.out] at hw
    obtain ⟨ra, rc, rfl, o4⟩ := hw
    obtain ⟨x1, x2, x3, rs⟩ := X
    simp only at o4 ⊢
    have HO : Hid (v4.ownsRow v3.heap.size 161 3 (.slice ra rs.length rc) rs.length (recsC rs)) := o4
    clear o4
    have r4 : Hid (v4.heap[w.heap.size]? = some (.cells #[.int .i64 0, .int .u64 0, .slice none 0 0] 104 (0, 0))) := heap_keep r0.out n4 l1
    have b4 := Below.step b0 n4 (Nat.le_refl _)
    obtain ⟨⟨d0, d1, d2⟩, f0, f1, f2⟩ := three_cells r4.out
    obtain ⟨fv, hfv⟩ : ∃ fv, faultV x1 = fv := ⟨_, rfl⟩
    have HF : Hid (faultV x1 = fv) := hfv
    rw [hfv]
    clear hfv
    go_wp2_with fail
    refine bodyPost_ret (v := .tuple #[.agg #[.int .i64 x2, .int .u64 x3, .slice ra rs.length rc], fv]) (by simp [results, Try.results83, go_sem, d0, d1, d2]) rfl ?_
    exact ⟨⟨ra, rc, by rw [HF.out], own_low (own_gb HO.out (gb3 _ w.heap.size _ _ _) l1) (by omega)⟩, bel3 b4 (Nat.le_refl _) _ _ _⟩

set_option maxRecDepth 20000 in
theorem implWalk_any (a : Option Addr) (len cap : Nat) (zs : List Int) (va root : Int) (w : World) (hB : Byt w a len zs) (hlen : len ≤ 1048576) (hv0 : 0 ≤ va) (hv1 : va ≤ 18446744073709551615) (hr0 : 0 ≤ root) (hr1 : root ≤ 18446744073709551615) :
    Calls Try.prog 33 #[.slice a len cap, .int .u64 root, .int .u64 va] w fun e w' => WalkOwn w.heap.size w' e (walkM zs root va) ∧ Below w.heap.size w w' := by
  have b0 := (Below.refl w.heap.size w).alloc (Nat.le_refl _) (Obj.cells #[.int .i64 0, .int .i64 0, .int .u64 0, .slice none 0 0] 42)
  have r0 : Hid ((w.alloc (Obj.cells #[.int .i64 0, .int .i64 0, .int .u64 0, .slice none 0 0] 42)).heap[w.heap.size]? = some (.cells #[.int .i64 0, .int .i64 0, .int .u64 0, .slice none 0 0] 42 (0, 0))) := heap_alloc_new w _
  have l1 : w.heap.size < (w.alloc (Obj.cells #[.int .i64 0, .int .i64 0, .int .u64 0, .slice none 0 0] 42)).heap.size := by simp
  have HB : Hid (Byt w a len zs) := hB
  clear hB
  have hcd := walkM_code zs root va
  obtain ⟨X, hX⟩ : ∃ X, walkM zs root va = X := ⟨_, rfl⟩
  have HX : Hid (walkM zs root va = X) := hX
  rw [hX] at hcd ⊢
  clear hX
  go_enter Try.func33, Try.ntmps33
  go_wp2_with fail
  generalize w.alloc (Obj.cells #[.int .i64 0, .int .i64 0, .int .u64 0, .slice none 0 0] 42) = v1 at b0 r0 l1 ⊢
  refine (walkRoot_any _ zs va root v1 (src_mem cap (HB.out.keep b0) hlen) hv0 hv1 hr0 hr1).mono ?_
  rintro e v2 ⟨hw, n2⟩
  rw [HX.out] at hw
  obtain ⟨ra, rc, rfl, o2⟩ := hw
  obtain ⟨x1, x2, x3, rs⟩ := X
  simp only at o2 hcd ⊢
  have HO2 : Hid (v2.ownsRow v1.heap.size 161 3 (.slice ra rs.length rc) rs.length (recsC rs)) := o2
  have r2 : Hid (v2.heap[w.heap.size]? = some (.cells #[.int .i64 0, .int .i64 0, .int .u64 0, .slice none 0 0] 42 (0, 0))) := heap_keep r0.out n2 l1
  have b2 := Below.step b0 n2 (Nat.le_refl _)
  have l2 : w.heap.size < v2.heap.size := Nat.lt_of_lt_of_le l1 n2.size
  have HL : Hid (v1.heap.size ≤ v2.heap.size) := n2.size
  obtain ⟨fv, hfv⟩ : ∃ fv, faultV x1 = fv := ⟨_, rfl⟩
  have HF : Hid (∀ w, Calls Try.prog 84 #[fv] w fun e w' => e = .returned (.int .i64 x1) ∧ w' = w) := by
    intro w
    rw [← hfv]
    exact codeOf_at x1 w hcd
  rw [hfv]
  clear hfv hcd o2 r0 b0 n2
  go_wp2_with fail
  have a3 := alloc_facts v2 #[.int .i64 x2, .int .u64 x3, .slice ra rs.length rc] 104
  have r3 : Hid ((v2.alloc (Obj.cells #[.int .i64 x2, .int .u64 x3, .slice ra rs.length rc] 104)).heap[w.heap.size]? = some (.cells #[.int .i64 0, .int .i64 0, .int .u64 0, .slice none 0 0] 42 (0, 0))) := heap_keep r2.out a3.2.2 l2
  have HO3 : Hid ((v2.alloc (Obj.cells #[.int .i64 x2, .int .u64 x3, .slice ra rs.length rc] 104)).ownsRow v1.heap.size 161 3 (.slice ra rs.length rc) rs.length (recsC rs)) := own_below HO2.out a3.2.2
  generalize v2.alloc (Obj.cells #[.int .i64 x2, .int .u64 x3, .slice ra rs.length rc] 104) = v3 at a3 r3 HO3 ⊢
  obtain ⟨s3, c3, n3⟩ := a3
  have g0 : v3.cell? ⟨v2.heap.size, 0, none⟩ = some (.int .i64 x2) := c3 0
  have g1 : v3.cell? ⟨v2.heap.size, 1, none⟩ = some (.int .u64 x3) := c3 1
  have g2 : v3.cell? ⟨v2.heap.size, 2, none⟩ = some (.slice ra rs.length rc) := c3 2
  have b3 := Below.step b2 n3 (Nat.le_refl _)
  clear c3 n3 r2 HO2 b2
  obtain ⟨⟨d0, d1, d2, d3⟩, e0, e1, e2, e3⟩ := four_cells r3.out
  have ne1 : w.heap.size ≠ v2.heap.size := by omega
  have ne2 : v2.heap.size ≠ w.heap.size := by omega
  go_region_held3 (fun w' => w'.cell? ⟨v2.heap.size, 0, none⟩ = some (.int .i64 x2) ∧ w'.cell? ⟨v2.heap.size, 1, none⟩ = some (.int .u64 x3) ∧ w'.cell? ⟨v2.heap.size, 2, none⟩ = some (.slice ra rs.length rc)) (go_keep)
    (first | (go_at_call 84; refine (HF.out _).mono ?_; rintro e w' ⟨rfl, rfl⟩))
  go_wp2_with fail
  exact bodyPost_ret (v := .agg #[.int .i64 x1, .int .i64 x2, .int .u64 x3, .slice ra rs.length rc]) (by simp [results, Try.results33, go_sem, d0, d1, d2, d3]) rfl
    ⟨⟨ra, rc, rfl, own_low (own_drew (own_gb HO3.out (gb4 v3 w.heap.size _ _ _ _) l1)) (by omega)⟩, (bel4 b3 (Nat.le_refl _) _ _ _ _).drew⟩

end Go.Proofs.Ythekickjjaleaab
