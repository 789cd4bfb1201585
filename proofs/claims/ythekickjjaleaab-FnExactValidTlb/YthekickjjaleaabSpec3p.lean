/- The specification's plain translation: l3On, l3Asid, the faults, l3Leaf, l3Answer, PlainTranslate. -/
import Derived.Test.YthekickjjaleaabSpec3w
namespace Go.Proofs.Ythekickjjaleaab
open Go.RowKit
set_option linter.unusedVariables false
attribute [local go_sem ↓] Go.wp_at_zero Go.wp_at_succ

/-- A context as a value. -/
def ctxV (mode : Int) (sum mxr : Bool) (satp : Int) : Value := .agg #[.int .i64 mode, .bool sum, .bool mxr, .int .u64 satp]

set_option maxHeartbeats 400000 in
theorem l3On_at (mode : Int) (sum mxr : Bool) (satp : Int) (w : World) (h0 : 0 ≤ satp) (h1 : satp ≤ 18446744073709551615) :
    Calls Try.prog 88 #[ctxV mode sum mxr satp] w fun e w' => e = .returned (.bool (onM mode satp)) ∧ Below w.heap.size w w' := by
  unfold ctxV
  have a1 := alloc_facts w #[.int .i64 mode, .bool sum, .bool mxr, .int .u64 satp] 52
  go_enter Try.func88, Try.ntmps88
  go_wp2_with fail
  generalize w.alloc (Obj.cells #[.int .i64 mode, .bool sum, .bool mxr, .int .u64 satp] 52) = v1 at a1 ⊢
  obtain ⟨l1, c1, n1⟩ := a1
  have c10 : v1.cell? ⟨w.heap.size, 0, none⟩ = some (.int .i64 mode) := c1 0
  clear c1
  refine (l2Bits_at satp 60 63 1152921504606846976 16 v1 h0 h1 (by omega) (by omega) (by omega) (by omega) rfl rfl).mono ?_
  rintro e w' ⟨rfl, nq, rfl⟩
  cases hs : (satp / 1152921504606846976 % 16 == 8)
  · go_wp2_with fail
    go_ret
    exact ⟨ret_bool (by simp [onM, hs]), below_drewN n1 nq⟩
  · cases hm0 : (mode == 0)
    · go_wp2_with fail
      go_ret
      exact ⟨ret_bool (by simp [onM, hs, hm0]), below_drewN n1 nq⟩
    · go_wp2_with fail
      go_ret
      exact ⟨ret_bool (by simp [onM, hs, hm0]), below_drewN n1 nq⟩


theorem l3PageFault_at (kind : Int) (w : World) : Calls Try.prog 126 #[.int .i64 kind] w fun e w' => e = .returned (.int .i64 (pageM kind)) ∧ w' = w := by
  by_cases k0 : kind = 0
  · subst k0
    go_enter Try.func126, Try.ntmps126
    go_wp2_with fail
    go_ret
    exact ⟨rfl, rfl⟩
  by_cases k1 : kind = 1
  · subst k1
    go_enter Try.func126, Try.ntmps126
    go_wp2_with fail
    go_ret
    exact ⟨rfl, rfl⟩
  have k0' : (kind == 0) = false := by simpa using k0
  have k1' : (kind == 1) = false := by simpa using k1
  go_enter Try.func126, Try.ntmps126
  go_wp2_with fail
  go_ret
  exact ⟨ret_i64 (by simp [pageM, k0, k1]), rfl⟩

theorem l3AccessFault_at (kind : Int) (w : World) : Calls Try.prog 127 #[.int .i64 kind] w fun e w' => e = .returned (.int .i64 (accessM kind)) ∧ w' = w := by
  by_cases k0 : kind = 0
  · subst k0
    go_enter Try.func127, Try.ntmps127
    go_wp2_with fail
    go_ret
    exact ⟨rfl, rfl⟩
  by_cases k1 : kind = 1
  · subst k1
    go_enter Try.func127, Try.ntmps127
    go_wp2_with fail
    go_ret
    exact ⟨rfl, rfl⟩
  have k0' : (kind == 0) = false := by simpa using k0
  have k1' : (kind == 1) = false := by simpa using k1
  go_enter Try.func127, Try.ntmps127
  go_wp2_with fail
  go_ret
  exact ⟨ret_i64 (by simp [accessM, k0, k1]), rfl⟩

/-- A cause and an address as a value. -/
def transV (r : Int × Int) : Value := .agg #[.int .i64 r.1, .int .u64 r.2]

theorem two_cells {w : World} {g : Nat} {T : TypeId} {a b : Value} (h : w.heap[g]? = some (.cells #[a, b] T (0, 0))) :
    (w.cell? ⟨g, 0, none⟩ = some a ∧ w.cell? ⟨g, 1, none⟩ = some b) ∧ w.frozen? ⟨g, 0, none⟩ = false ∧ w.frozen? ⟨g, 1, none⟩ = false := by
  simp [World.cell?, World.frozen?, h]

theorem bel2 {B : Nat} {a w : World} {g : Nat} (h : Below B a w) (hg : B ≤ g) (x y : Value) : Below B a ((w.setCell ⟨g, 0, none⟩ x).setCell ⟨g, 1, none⟩ y) :=
  (h.setCell (p := ⟨g, 0, none⟩) hg x).setCell (p := ⟨g, 1, none⟩) hg y

set_option maxHeartbeats 800000 in
theorem l3Leaf_any (pte level mode : Int) (sum mxr : Bool) (satp kind va : Int) (w : World) (h0 : 0 ≤ pte) (h1 : pte ≤ 18446744073709551615) (hv : 0 ≤ va) (hv' : va ≤ 18446744073709551615) (hl : -9223372036854775808 ≤ level) (hl' : level ≤ 9223372036854775807) :
    Calls Try.prog 128 #[.int .u64 pte, .int .i64 level, ctxV mode sum mxr satp, .int .i64 kind, .int .u64 va] w fun e w' => e = .returned (transV (leafM pte level mode sum mxr kind va)) ∧ Below w.heap.size w w' := by
  unfold ctxV leafM
  cases hg : grantM pte kind mode sum mxr
  · rw [if_neg (by simp)]
    have HG : Hid (grantM pte kind mode sum mxr = false) := hg
    clear hg
    go_enter Try.func128, Try.ntmps128
    go_wp2_with fail
    refine (specGranted_at pte kind mode sum mxr _ h0 h1).mono ?_
    rintro e w' ⟨rfl, nq, rfl⟩
    rw [HG.out]
    go_wp2_with (go_at_call 126; refine (l3PageFault_at kind _).mono ?_; rintro e w' ⟨rfl, rfl⟩)
    exact bodyPost_ret (v := .agg #[.int .i64 (pageM kind), .int .u64 0]) (by simp [results, Try.results128, go_sem]) rfl ⟨rfl, bel2 (below_drewN (((Below.refl _ _).alloc (Nat.le_refl _) _).alloc (by simp) _) nq) (Nat.le_succ _) _ _⟩
  · rw [if_pos rfl]
    have HG : Hid (grantM pte kind mode sum mxr = true) := hg
    clear hg
    go_enter Try.func128, Try.ntmps128
    go_wp2_with fail
    refine (specGranted_at pte kind mode sum mxr _ h0 h1).mono ?_
    rintro e w' ⟨rfl, nq, rfl⟩
    rw [HG.out]
    go_wp2_with (go_at_call 30; refine (specPhysOf_at pte level va _ h0 h1 hv hv' hl hl').mono ?_; rintro e w' ⟨rfl, nr, rfl⟩)
    exact bodyPost_ret (v := .agg #[.int .i64 0, .int .u64 (physM pte level va)]) (by simp [results, Try.results128, go_sem]) rfl ⟨rfl, bel2 (below_drewN (((Below.refl _ _).alloc (Nat.le_refl _) _).alloc (by simp) _) (nq + nr)) (Nat.le_succ _) _ _⟩

set_option maxHeartbeats 800000 in
theorem l3Answer_any (r : Int × Int × Int × List RecM) (v : Value) (mode : Int) (sum mxr : Bool) (satp kind va : Int) (w : World) (h0 : 0 ≤ r.2.2.1) (h1 : r.2.2.1 ≤ 18446744073709551615) (hv : 0 ≤ va) (hv' : va ≤ 18446744073709551615) (hl : 0 ≤ r.2.1) (hl' : r.2.1 ≤ 2) (ho : v.oneCell' = true) :
    Calls Try.prog 89 #[.agg #[.int .i64 r.1, .int .i64 r.2.1, .int .u64 r.2.2.1, v], ctxV mode sum mxr satp, .int .i64 kind, .int .u64 va] w fun e w' => e = .returned (transV (answerM r mode sum mxr kind va)) ∧ Below w.heap.size w w' := by
  obtain ⟨c, l, p, rs⟩ := r
  simp only at h0 h1 hl hl' ⊢
  unfold answerM
  simp only
  by_cases c2 : c = 2
  · subst c2
    rw [if_pos rfl]
    unfold ctxV
    go_enter Try.func89, Try.ntmps89
    go_wp2_with (go_at_call 126; refine (l3PageFault_at kind _).mono ?_; rintro e w' ⟨rfl, rfl⟩)
    exact bodyPost_ret (v := .agg #[.int .i64 (pageM kind), .int .u64 0]) (by simp [results, Try.results89, go_sem]) rfl ⟨rfl, (((Below.refl _ _).alloc (Nat.le_refl _) _).alloc (by simp) _).alloc (by simp; omega) _⟩
  rw [if_neg c2]
  have c2' : (c == 2) = false := by simpa using c2
  by_cases c3 : c = 3
  · subst c3
    rw [if_pos rfl]
    clear c2 c2'
    unfold ctxV
    go_enter Try.func89, Try.ntmps89
    go_wp2_with (go_at_call 127; refine (l3AccessFault_at kind _).mono ?_; rintro e w' ⟨rfl, rfl⟩)
    exact bodyPost_ret (v := .agg #[.int .i64 (accessM kind), .int .u64 0]) (by simp [results, Try.results89, go_sem]) rfl ⟨rfl, (((Below.refl _ _).alloc (Nat.le_refl _) _).alloc (by simp) _).alloc (by simp; omega) _⟩
  rw [if_neg c3]
  have c3' : (c == 3) = false := by simpa using c3
  clear c2 c3
  obtain ⟨⟨x1, x2⟩, hX⟩ : ∃ X, leafM p l mode sum mxr kind va = X := ⟨_, rfl⟩
  rw [hX]
  have HX : Hid (leafM p l mode sum mxr kind va = (x1, x2)) := hX
  clear hX
  have n1 := (((Below.refl w.heap.size w).alloc (Nat.le_refl _) (Obj.cells #[.int .i64 c, .int .i64 l, .int .u64 p, v] 42)).alloc (by simp) (Obj.cells #[.int .i64 mode, .bool sum, .bool mxr, .int .u64 satp] 52)).alloc (by simp; omega) (Obj.cells #[.int .i64 0, .int .u64 0] 50)
  have H1 : Hid (((((w.alloc (Obj.cells #[.int .i64 c, .int .i64 l, .int .u64 p, v] 42)).alloc (Obj.cells #[.int .i64 mode, .bool sum, .bool mxr, .int .u64 satp] 52)).alloc (Obj.cells #[.int .i64 0, .int .u64 0] 50))).heap[w.heap.size + 1 + 1]? = some (.cells #[.int .i64 0, .int .u64 0] 50 (0, 0))) := by
    have := heap_alloc_new ((w.alloc (Obj.cells #[.int .i64 c, .int .i64 l, .int .u64 p, v] 42)).alloc (Obj.cells #[.int .i64 mode, .bool sum, .bool mxr, .int .u64 satp] 52)) (Obj.cells #[.int .i64 0, .int .u64 0] 50)
    simp only [World.size_alloc] at this
    exact this
  have l1 : w.heap.size + 1 + 1 < ((((w.alloc (Obj.cells #[.int .i64 c, .int .i64 l, .int .u64 p, v] 42)).alloc (Obj.cells #[.int .i64 mode, .bool sum, .bool mxr, .int .u64 satp] 52)).alloc (Obj.cells #[.int .i64 0, .int .u64 0] 50))).heap.size := by simp
  unfold ctxV
  go_enter Try.func89, Try.ntmps89
  go_wp2_with fail
  generalize ((w.alloc (Obj.cells #[.int .i64 c, .int .i64 l, .int .u64 p, v] 42)).alloc (Obj.cells #[.int .i64 mode, .bool sum, .bool mxr, .int .u64 satp] 52)).alloc (Obj.cells #[.int .i64 0, .int .u64 0] 50) = v1 at n1 H1 l1 ⊢
  refine (l3Leaf_any p l mode sum mxr satp kind va v1 h0 h1 hv hv' (by omega) (by omega)).mono ?_
  rw [HX.out]
  rintro e v2 ⟨rfl, n2⟩
  have n12 := Below.step n1 n2 (Nat.le_refl _)
  obtain ⟨⟨d0, d1⟩, e0, e1⟩ := two_cells (heap_keep H1.out n2 l1)
  unfold transV
  simp only
  clear n1 n2 H1
  go_wp2_with fail
  exact bodyPost_ret (v := .agg #[.int .i64 x1, .int .u64 x2]) (by simp [results, Try.results89, go_sem, d0, d1]) rfl ⟨rfl, bel2 n12 (by omega) _ _⟩

theorem fromM_bd (zs : List Int) (va : Int) (h : ∀ i : Nat, 0 ≤ zs[i]?.getD 0 ∧ zs[i]?.getD 0 ≤ 255) : ∀ (l : Nat) (n : Int), l ≤ 2 →
    0 ≤ (fromM zs va l n).2.2.1 ∧ (fromM zs va l n).2.2.1 ≤ 18446744073709551615 ∧ 0 ≤ (fromM zs va l n).2.1 ∧ (fromM zs va l n).2.1 ≤ 2
  | 0, n, hl => by
    unfold fromM
    have hb := rdV_bd zs (64 * n + 8 * idxM va ((0 : Nat) : Int)) 8 (by omega) h
    split
    · simp
    · split
      · simp
      · split
        · exact ⟨hb.1, hb.2, by simp, by simp⟩
        · simp
  | l + 1, n, hl => by
    unfold fromM
    have hb := rdV_bd zs (64 * n + 8 * idxM va ((l + 1 : Nat) : Int)) 8 (by omega) h
    split
    · exact ⟨by simp, by simp, by show (0 : Int) ≤ ((l + 1 : Nat) : Int); omega, by show ((l + 1 : Nat) : Int) ≤ 2; omega⟩
    · split
      · exact ⟨by simp, by simp, by show (0 : Int) ≤ ((l + 1 : Nat) : Int); omega, by show ((l + 1 : Nat) : Int) ≤ 2; omega⟩
      · split
        · exact ⟨hb.1, hb.2, by show (0 : Int) ≤ ((l + 1 : Nat) : Int); omega, by show ((l + 1 : Nat) : Int) ≤ 2; omega⟩
        · exact fromM_bd zs va h l _ (by omega)

theorem walkM_bd (zs : List Int) (root va : Int) (h : ∀ i : Nat, 0 ≤ zs[i]?.getD 0 ∧ zs[i]?.getD 0 ≤ 255) :
    0 ≤ (walkM zs root va).2.2.1 ∧ (walkM zs root va).2.2.1 ≤ 18446744073709551615 ∧ 0 ≤ (walkM zs root va).2.1 ∧ (walkM zs root va).2.1 ≤ 2 := by
  unfold walkM
  split
  · simp
  · exact fromM_bd zs va h 2 _ (by omega)

set_option maxHeartbeats 1600000 in
theorem specPlain_any (a : Option Addr) (len cap : Nat) (zs : List Int) (mode : Int) (sum mxr : Bool) (satp kind va : Int) (w : World) (hl : len ≤ 1048576) (hc : len ≤ cap) (hm : cap ≤ 9223372036854775807) (hs0 : 0 ≤ satp) (hs1 : satp ≤ 18446744073709551615) (hv0 : 0 ≤ va) (hv1 : va ≤ 18446744073709551615) (hB : Byt w a len zs) :
    Calls Try.prog 37 #[.slice a len cap, ctxV mode sum mxr satp, .int .i64 kind, .int .u64 va] w fun e w' => e = .returned (transV (plainM zs mode sum mxr satp kind va)) ∧ Below w.heap.size w w' := by
  by_cases hbad : kind < 0 ∨ 2 < kind ∨ mode < 0 ∨ 2 < mode
  · have hp : plainM zs mode sum mxr satp kind va = (63, 0) := by unfold plainM; rw [if_pos hbad]
    rw [hp]
    unfold ctxV transV
    clear hp
    rcases (show kind < 0 ∨ (0 ≤ kind ∧ 2 < kind) ∨ (0 ≤ kind ∧ kind ≤ 2 ∧ mode < 0) ∨ (0 ≤ kind ∧ kind ≤ 2 ∧ 0 ≤ mode ∧ 2 < mode) by omega) with h | ⟨h, h'⟩ | ⟨h, h', h''⟩ | ⟨h, h', h'', h3⟩
    all_goals
      clear hbad
      go_enter Try.func37, Try.ntmps37
      go_wp2_with fail
      exact bodyPost_ret (v := .agg #[.int .i64 63, .int .u64 0]) (by simp [results, Try.results37, go_sem]) rfl ⟨rfl, ((Below.refl _ _).alloc (Nat.le_refl _) _).alloc (by simp) _⟩
  · have hk0 : 0 ≤ kind := by omega
    have hk2 : kind ≤ 2 := by omega
    have hm0 : 0 ≤ mode := by omega
    have hm2 : mode ≤ 2 := by omega
    unfold plainM
    rw [if_neg hbad]
    clear hbad
    cases hon : onM mode satp
    · rw [if_pos rfl]
      have n1 := ((Below.refl w.heap.size w).alloc (Nat.le_refl _) (Obj.cells #[.int .i64 mode, .bool sum, .bool mxr, .int .u64 satp] 52)).alloc (by simp) (Obj.cells #[.int .i64 0, .int .u64 0] 50)
      have H1 : Hid (((w.alloc (Obj.cells #[.int .i64 mode, .bool sum, .bool mxr, .int .u64 satp] 52)).alloc (Obj.cells #[.int .i64 0, .int .u64 0] 50)).heap[w.heap.size + 1]? = some (.cells #[.int .i64 0, .int .u64 0] 50 (0, 0))) := by
        have := heap_alloc_new (w.alloc (Obj.cells #[.int .i64 mode, .bool sum, .bool mxr, .int .u64 satp] 52)) (Obj.cells #[.int .i64 0, .int .u64 0] 50)
        simp only [World.size_alloc] at this
        exact this
      have H2 : Hid (((w.alloc (Obj.cells #[.int .i64 mode, .bool sum, .bool mxr, .int .u64 satp] 52)).alloc (Obj.cells #[.int .i64 0, .int .u64 0] 50)).heap[w.heap.size]? = some (.cells #[.int .i64 mode, .bool sum, .bool mxr, .int .u64 satp] 52 (0, 0))) := by
        show _ = _
        rw [Below.heap_alloc _ _ _ (by simp)]
        exact heap_alloc_new _ _
      have l1 : w.heap.size + 1 < ((w.alloc (Obj.cells #[.int .i64 mode, .bool sum, .bool mxr, .int .u64 satp] 52)).alloc (Obj.cells #[.int .i64 0, .int .u64 0] 50)).heap.size := by simp
      have HO : Hid (onM mode satp = false) := hon
      clear hon
      unfold ctxV
      go_enter Try.func37, Try.ntmps37
      go_wp2_with fail
      generalize (w.alloc (Obj.cells #[.int .i64 mode, .bool sum, .bool mxr, .int .u64 satp] 52)).alloc (Obj.cells #[.int .i64 0, .int .u64 0] 50) = v1 at n1 H1 H2 l1 ⊢
      refine (l3On_at mode sum mxr satp v1 hs0 hs1).mono ?_
      rintro e v2 ⟨rfl, n2⟩
      rw [HO.out]
      have n12 := Below.step n1 n2 (Nat.le_refl _)
      obtain ⟨⟨d0, d1⟩, e0, e1⟩ := two_cells (heap_keep H1.out n2 l1)
      have H3 : Hid (v2.heap[w.heap.size]? = some (.cells #[.int .i64 mode, .bool sum, .bool mxr, .int .u64 satp] 52 (0, 0))) := heap_keep H2.out n2 (by omega)
      have H4 : Hid (v2.heap[w.heap.size + 1]? = some (.cells #[.int .i64 0, .int .u64 0] 50 (0, 0))) := heap_keep H1.out n2 l1
      have l2 : w.heap.size + 1 < v2.heap.size := Nat.lt_of_lt_of_le l1 n2.size
      clear n1 n2 H1 H2 l1
      go_wp2_with fail
      exact bodyPost_ret (v := .agg #[.int .i64 0, .int .u64 va]) (by simp [results, Try.results37, go_sem, d0, d1]) rfl ⟨rfl, bel2 n12 (by omega) _ _⟩
    · rw [if_neg (by simp)]
      obtain ⟨⟨x1, x2⟩, hX⟩ : ∃ X, answerM (walkM zs satp va) mode sum mxr kind va = X := ⟨_, rfl⟩
      rw [hX]
      have HX : Hid (answerM (walkM zs satp va) mode sum mxr kind va = (x1, x2)) := hX
      clear hX
      have n1 := ((Below.refl w.heap.size w).alloc (Nat.le_refl _) (Obj.cells #[.int .i64 mode, .bool sum, .bool mxr, .int .u64 satp] 52)).alloc (by simp) (Obj.cells #[.int .i64 0, .int .u64 0] 50)
      have H1 : Hid (((w.alloc (Obj.cells #[.int .i64 mode, .bool sum, .bool mxr, .int .u64 satp] 52)).alloc (Obj.cells #[.int .i64 0, .int .u64 0] 50)).heap[w.heap.size + 1]? = some (.cells #[.int .i64 0, .int .u64 0] 50 (0, 0))) := by
        have := heap_alloc_new (w.alloc (Obj.cells #[.int .i64 mode, .bool sum, .bool mxr, .int .u64 satp] 52)) (Obj.cells #[.int .i64 0, .int .u64 0] 50)
        simp only [World.size_alloc] at this
        exact this
      have H2 : Hid (((w.alloc (Obj.cells #[.int .i64 mode, .bool sum, .bool mxr, .int .u64 satp] 52)).alloc (Obj.cells #[.int .i64 0, .int .u64 0] 50)).heap[w.heap.size]? = some (.cells #[.int .i64 mode, .bool sum, .bool mxr, .int .u64 satp] 52 (0, 0))) := by
        show _ = _
        rw [Below.heap_alloc _ _ _ (by simp)]
        exact heap_alloc_new _ _
      have l1 : w.heap.size + 1 < ((w.alloc (Obj.cells #[.int .i64 mode, .bool sum, .bool mxr, .int .u64 satp] 52)).alloc (Obj.cells #[.int .i64 0, .int .u64 0] 50)).heap.size := by simp
      have HO : Hid (onM mode satp = true) := hon
      clear hon
      unfold ctxV
      go_enter Try.func37, Try.ntmps37
      go_wp2_with fail
      generalize (w.alloc (Obj.cells #[.int .i64 mode, .bool sum, .bool mxr, .int .u64 satp] 52)).alloc (Obj.cells #[.int .i64 0, .int .u64 0] 50) = v1 at n1 H1 H2 l1 ⊢
      refine (l3On_at mode sum mxr satp v1 hs0 hs1).mono ?_
      rintro e v2 ⟨rfl, n2⟩
      rw [HO.out]
      have n12 := Below.step n1 n2 (Nat.le_refl _)
      obtain ⟨⟨d0, d1⟩, e0, e1⟩ := two_cells (heap_keep H1.out n2 l1)
      have H3 : Hid (v2.heap[w.heap.size]? = some (.cells #[.int .i64 mode, .bool sum, .bool mxr, .int .u64 satp] 52 (0, 0))) := heap_keep H2.out n2 (by omega)
      have H4 : Hid (v2.heap[w.heap.size + 1]? = some (.cells #[.int .i64 0, .int .u64 0] 50 (0, 0))) := heap_keep H1.out n2 l1
      have l2 : w.heap.size + 1 < v2.heap.size := Nat.lt_of_lt_of_le l1 n2.size
      clear n1 n2 H1 H2 l1
      obtain ⟨⟨q0, q1, q2, q3⟩, _⟩ := four_cells H3.out
      have HBy : Hid (∀ v : World, Below v2.heap.size v2 v → Byt v a len zs) := fun v hv => (hB.keep n12).keep hv
      have HC : Hid (∀ v : World, Below v2.heap.size v2 v → v.cell? ⟨w.heap.size, 0, none⟩ = some (.int .i64 mode) ∧ v.cell? ⟨w.heap.size, 1, none⟩ = some (.bool sum) ∧ v.cell? ⟨w.heap.size, 2, none⟩ = some (.bool mxr) ∧ v.cell? ⟨w.heap.size, 3, none⟩ = some (.int .u64 satp)) :=
        fun v hv => (four_cells (heap_keep H3.out hv (by omega))).1
      have hwb := walkM_bd zs satp va (hB.2.1)
      clear hB d0 d1 e0 e1
      obtain ⟨W, hW⟩ : ∃ W, walkM zs satp va = W := ⟨_, rfl⟩
      rw [hW] at hwb
      have HW : Hid (walkM zs satp va = W) := hW
      clear hW
      go_wp2_with fail
      go_region_held3 (fun w' => w'.cell? ⟨w.heap.size, 0, none⟩ = some (.int .i64 mode) ∧ w'.cell? ⟨w.heap.size, 1, none⟩ = some (.bool sum) ∧ w'.cell? ⟨w.heap.size, 2, none⟩ = some (.bool mxr) ∧ w'.cell? ⟨w.heap.size, 3, none⟩ = some (.int .u64 satp)) (go_keep)
        (first
          | (go_at_call 32; refine (specWalk_any a len cap zs satp va _ hl hc hm hs0 hs1 hv0 hv1 (HBy.out _ (Below.refl _ _).drew)).mono ?_; rw [HW.out]; rintro e v3 ⟨⟨a3, c3, rfl, r3, na3, sp3, nc3⟩, n3⟩; have m3 : Below v2.heap.size v2 v3 := (Below.refl v2.heap.size v2).drew.trans n3; obtain ⟨g0, g1, g2, g3⟩ := HC.out v3 m3; clear r3 na3 sp3 nc3 n3)
          | (go_at_call 89; refine (l3Answer_any W (.slice a3 W.2.2.2.length c3) mode sum mxr satp kind va _ hwb.1 hwb.2.1 hv0 hv1 hwb.2.2.1 hwb.2.2.2 rfl).mono ?_; rw [← HW.out, HX.out]; unfold transV; rintro e v4 ⟨rfl, n4⟩; have m4 : Below v2.heap.size v2 v4 := Below.step m3 n4 (Nat.le_refl _); obtain ⟨j0, j1, j2, j3⟩ := HC.out v4 m4; obtain ⟨⟨d0, d1⟩, e0, e1⟩ := two_cells (heap_keep H4.out m4 l2); clear n4))
      go_wp2_with fail
      exact bodyPost_ret (v := .agg #[.int .i64 x1, .int .u64 x2]) (by simp [results, Try.results37, go_sem, d0, d1]) rfl ⟨rfl, bel2 (Below.step n12 m4 (Nat.le_refl _)) (by omega) _ _⟩

end Go.Proofs.Ythekickjjaleaab
