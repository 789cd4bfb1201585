/- The program's plain translation. -/
import Derived.Test.YthekickjjaleaabImpl3p
import Derived.Test.YthekickjjaleaabSpec3p
namespace Go.Proofs.Ythekickjjaleaab
open Go.RowKit
set_option linter.unusedVariables false
attribute [local go_sem ↓] Go.wp_at_zero Go.wp_at_succ

theorem knownAccess_at (mode : Int) (sum mxr : Bool) (satp kind : Int) (w : World) :
    Calls Try.prog 90 #[ctxV mode sum mxr satp, .int .i64 kind] w fun e w' => e = .returned (.bool (decide (0 ≤ kind ∧ kind ≤ 2 ∧ 0 ≤ mode ∧ mode ≤ 2))) ∧ Below w.heap.size w w' := by
  unfold ctxV
  have b1 := (Below.refl w.heap.size w).alloc (Nat.le_refl _) (Obj.cells #[.int .i64 mode, .bool sum, .bool mxr, .int .u64 satp] 52)
  obtain ⟨kb, hkb⟩ : ∃ kb, decide (0 ≤ kind ∧ kind ≤ 2 ∧ 0 ≤ mode ∧ mode ≤ 2) = kb := ⟨_, rfl⟩
  rw [hkb]
  have HK : Hid (decide (0 ≤ kind ∧ kind ≤ 2 ∧ 0 ≤ mode ∧ mode ≤ 2) = kb) := hkb
  clear hkb
  by_cases h1 : 0 ≤ kind
  · by_cases h2 : kind ≤ 2
    · by_cases h3 : 0 ≤ mode
      · go_enter Try.func90, Try.ntmps90
        go_wp2_with fail
        go_ret
        exact ⟨ret_bool (by rw [← HK.out]; simp [h1, h2, h3]), b1⟩
      · go_enter Try.func90, Try.ntmps90
        go_wp2_with fail
        go_ret
        exact ⟨ret_bool (by rw [← HK.out]; symm; rw [decide_eq_false_iff_not]; omega), b1⟩
    · go_enter Try.func90, Try.ntmps90
      go_wp2_with fail
      go_ret
      exact ⟨ret_bool (by rw [← HK.out]; symm; rw [decide_eq_false_iff_not]; omega), b1⟩
  · go_enter Try.func90, Try.ntmps90
    go_wp2_with fail
    go_ret
    exact ⟨ret_bool (by rw [← HK.out]; symm; rw [decide_eq_false_iff_not]; omega), b1⟩

theorem translates_at (mode : Int) (sum mxr : Bool) (satp : Int) (w : World) (h0 : 0 ≤ satp) (h1 : satp ≤ 18446744073709551615) :
    Calls Try.prog 129 #[ctxV mode sum mxr satp] w fun e w' => e = .returned (.bool (onM mode satp)) ∧ Below w.heap.size w w' := by
  unfold ctxV
  have b1 := (Below.refl w.heap.size w).alloc (Nat.le_refl _) (Obj.cells #[.int .i64 mode, .bool sum, .bool mxr, .int .u64 satp] 52)
  have HS : Hid (satp / 1152921504606846976 = satp / 1152921504606846976 % 16) := show _ = _ by omega
  cases hs : (satp / 1152921504606846976 == 8)
  · go_enter Try.func129, Try.ntmps129
    go_wp2_with fail
    go_ret
    exact ⟨ret_bool (by rw [onM, ← HS.out, hs]; rfl), b1⟩
  · cases hm0 : (mode == 0)
    · go_enter Try.func129, Try.ntmps129
      go_wp2_with fail
      go_ret
      exact ⟨ret_bool (by rw [onM, ← HS.out, hs, hm0]; rfl), b1⟩
    · go_enter Try.func129, Try.ntmps129
      go_wp2_with fail
      go_ret
      exact ⟨ret_bool (by rw [onM, ← HS.out, hs, hm0]; rfl), b1⟩

theorem throughLeaf_any (pte level mode : Int) (sum mxr : Bool) (satp kind va : Int) (w : World) (h0 : 0 ≤ pte) (h1 : pte ≤ 18446744073709551615) (hv : 0 ≤ va) (hv' : va ≤ 18446744073709551615) (hl : level = 0 ∨ level = 1 ∨ level = 2) :
    Calls Try.prog 130 #[.int .u64 pte, .int .i64 level, ctxV mode sum mxr satp, .int .i64 kind, .int .u64 va] w fun e w' =>
      e = .returned (.tuple #[.int .u64 (if grantM pte kind mode sum mxr = true then physM pte level va else 0), faultV (if grantM pte kind mode sum mxr = true then 1 else 2)]) ∧ Below w.heap.size w w' := by
  unfold ctxV
  have b1 := (Below.refl w.heap.size w).alloc (Nat.le_refl _) (Obj.cells #[.int .i64 mode, .bool sum, .bool mxr, .int .u64 satp] 52)
  cases hg : grantM pte kind mode sum mxr
  · have HG : Hid (grantM pte kind mode sum mxr = false) := hg
    clear hg
    rw [if_neg (by simp), if_neg (by simp)]
    go_enter Try.func130, Try.ntmps130
    go_wp2_with (go_at_call 29; refine (implGranted_at pte kind mode sum mxr _ h0 h1).mono ?_; rintro e w' ⟨rfl, rfl⟩; rw [HG.out])
    exact bodyPost_ret (v := .tuple #[.int .u64 0, .iface 156 (.agg #[])]) (by simp [results, Try.results130, go_sem]) rfl ⟨rfl, b1⟩
  · have HG : Hid (grantM pte kind mode sum mxr = true) := hg
    clear hg
    rw [if_pos rfl, if_pos rfl]
    go_enter Try.func130, Try.ntmps130
    go_wp2_with (first
      | (go_at_call 29; refine (implGranted_at pte kind mode sum mxr _ h0 h1).mono ?_; rintro e w' ⟨rfl, rfl⟩; rw [HG.out])
      | (go_at_call 81; refine (phys_at pte level va _ h0 h1 hl hv hv').mono ?_; rintro e w' ⟨rfl, rfl⟩))
    exact bodyPost_ret (v := .tuple #[.int .u64 (physM pte level va), .nilIface]) (by simp [results, Try.results130, go_sem]) rfl ⟨rfl, b1⟩

theorem nn_p (w : World) : (binOp .neq 106 (.iface 156 (.agg #[])) .nilIface).run Try.prog w = .ok (.bool true) w := by kernel_rfl
theorem nn_a (w : World) : (binOp .neq 106 (.iface 158 (.agg #[])) .nilIface).run Try.prog w = .ok (.bool true) w := by kernel_rfl
theorem nn_n (w : World) : (binOp .neq 106 .nilIface .nilIface).run Try.prog w = .ok (.bool false) w := by kernel_rfl

/-- What a walk gives to an access: the address, and the code of the fault (1: none). -/
def ansM (r : Int × Int × Int × List RecM) (mode : Int) (sum mxr : Bool) (kind va : Int) : Int × Int :=
  if r.1 = 1 then (if grantM r.2.2.1 kind mode sum mxr = true then (physM r.2.2.1 r.2.1 va, 1) else (0, 2)) else (0, r.1)

theorem hid_keep3 {w w' : World} {g : Nat} {o : Obj} (h : Hid (w.heap[g]? = some o)) (n : Below w.heap.size w w') (l : g < w.heap.size) : Hid (w'.heap[g]? = some o) := heap_keep h.out n l

set_option maxRecDepth 20000 in
theorem plainPhys_on (sv : Value) (zs : List Int) (mode : Int) (sum mxr : Bool) (satp kind va : Int) (w : World) (hB : SrcAt w sv zs) (hv0 : 0 ≤ va) (hv1 : va ≤ 18446744073709551615) (hs0 : 0 ≤ satp) (hs1 : satp ≤ 18446744073709551615) (hon : onM mode satp = true) :
    Calls Try.prog 91 #[sv, ctxV mode sum mxr satp, .int .i64 kind, .int .u64 va] w fun e w' =>
      e = .returned (.tuple #[.int .u64 (ansM (walkM zs satp va) mode sum mxr kind va).1, faultV (ansM (walkM zs satp va) mode sum mxr kind va).2]) ∧ Below w.heap.size w w' := by
  have HB : Hid (SrcAt w sv zs) := hB
  have HTR : Hid (∀ w, Calls Try.prog 129 #[.agg #[.int .i64 mode, .bool sum, .bool mxr, .int .u64 satp]] w fun e w' => e = .returned (.bool true) ∧ Below w.heap.size w w') := fun w => by have := translates_at mode sum mxr satp w hs0 hs1; rw [hon] at this; exact this
  clear hon
  have hcd := walkM_code zs satp va
  have hbd := walkM_bd zs satp va hB.bd
  clear hB
  obtain ⟨X, hX⟩ : ∃ X, walkM zs satp va = X := ⟨_, rfl⟩
  have HX : Hid (walkM zs satp va = X) := hX
  rw [hX] at hcd hbd ⊢
  clear hX
  obtain ⟨x1, x2, x3, rs⟩ := X
  simp only at hcd hbd
  unfold ctxV
  have b1 := (Below.refl w.heap.size w).alloc (Nat.le_refl _) (Obj.cells #[.int .i64 mode, .bool sum, .bool mxr, .int .u64 satp] 52)
  have r1 : Hid ((w.alloc (Obj.cells #[.int .i64 mode, .bool sum, .bool mxr, .int .u64 satp] 52)).heap[w.heap.size]? = some (.cells #[.int .i64 mode, .bool sum, .bool mxr, .int .u64 satp] 52 (0, 0))) := heap_alloc_new w _
  have l1 : w.heap.size < (w.alloc (Obj.cells #[.int .i64 mode, .bool sum, .bool mxr, .int .u64 satp] 52)).heap.size := by simp
  have q1 := nn_p
  have q2 := nn_a
  have q3 := nn_n
  rcases hcd with rfl | rfl | rfl
  · obtain ⟨⟨y1, y2⟩, hY⟩ : ∃ Y, ansM (1, x2, x3, rs) mode sum mxr kind va = Y := ⟨_, rfl⟩
    rw [hY]
    obtain ⟨fv, hfv⟩ : ∃ fv, faultV y2 = fv := ⟨_, rfl⟩
    have HTL : Hid (∀ w, Calls Try.prog 130 #[.int .u64 x3, .int .i64 x2, .agg #[.int .i64 mode, .bool sum, .bool mxr, .int .u64 satp], .int .i64 kind, .int .u64 va] w fun e w' =>
        e = .returned (.tuple #[.int .u64 y1, fv]) ∧ Below w.heap.size w w') := by
      intro w
      have := throughLeaf_any x3 x2 mode sum mxr satp kind va w hbd.1 hbd.2.1 hv0 hv1 (by omega)
      unfold ctxV at this
      rw [← hfv]
      cases hg : grantM x3 kind mode sum mxr
      · simp [ansM, hg] at hY
        obtain ⟨rfl, rfl⟩ := hY
        simpa [hg] using this
      · simp [ansM, hg] at hY
        obtain ⟨rfl, rfl⟩ := hY
        simpa [hg] using this
    rw [hfv]
    clear hY hfv
    go_enter Try.func91, Try.ntmps91
    go_wp2_with fail
    generalize w.alloc (Obj.cells #[.int .i64 mode, .bool sum, .bool mxr, .int .u64 satp] 52) = v0 at b1 r1 l1 ⊢
    refine (HTR.out v0).mono ?_
    rintro e v1 ⟨rfl, n1⟩
    replace r1 := hid_keep3 r1 n1 l1
    replace b1 := Below.step b1 n1 (Nat.le_refl _)
    replace l1 : w.heap.size < v1.heap.size := Nat.lt_of_lt_of_le l1 n1.size
    clear n1
    obtain ⟨⟨d0, d1, d2, d3⟩, e0, e1, e2, e3⟩ := four_cells r1.out
    go_wp2_with fail
    clear d0 d1 d2 d3 e0 e1 e2 e3
    refine (walkRoot_any sv zs va satp v1 (HB.out.keep b1) hv0 hv1 hs0 hs1).mono ?_
    rintro e v2 ⟨hw, n2⟩
    rw [HX.out] at hw
    obtain ⟨ra, rc, rfl, o2⟩ := hw
    clear o2
    rw [show faultV 1 = .nilIface from rfl]
    have b2 := Below.step b1 n2 (Nat.le_refl _)
    have r2 : Hid (v2.heap[w.heap.size]? = some (.cells #[.int .i64 mode, .bool sum, .bool mxr, .int .u64 satp] 52 (0, 0))) := heap_keep r1.out n2 l1
    have l2 : w.heap.size < v2.heap.size := Nat.lt_of_lt_of_le l1 n2.size
    obtain ⟨⟨d0, d1, d2, d3⟩, e0, e1, e2, e3⟩ := four_cells r2.out
    have b3 := b2.alloc (by omega) (Obj.cells #[.int .i64 x2, .int .u64 x3, .slice ra rs.length rc] 104)
    clear b1 r1 l1 n2
    go_wp2_with fail
    refine (HTL.out _).mono ?_
    rintro e v4 ⟨rfl, n4⟩
    have b4 := Below.step b3 n4 (Nat.le_refl _)
    go_wp2_with fail
    exact bodyPost_ret (v := .tuple #[.int .u64 y1, fv]) (by simp [results, Try.results91, go_sem]) rfl ⟨rfl, b4⟩
  · rw [show ansM (2, x2, x3, rs) mode sum mxr kind va = (0, 2) from rfl]
    rw [show faultV 2 = .iface 156 (.agg #[]) from rfl]
    go_enter Try.func91, Try.ntmps91
    go_wp2_with fail
    generalize w.alloc (Obj.cells #[.int .i64 mode, .bool sum, .bool mxr, .int .u64 satp] 52) = v0 at b1 r1 l1 ⊢
    refine (HTR.out v0).mono ?_
    rintro e v1 ⟨rfl, n1⟩
    replace r1 := hid_keep3 r1 n1 l1
    replace b1 := Below.step b1 n1 (Nat.le_refl _)
    replace l1 : w.heap.size < v1.heap.size := Nat.lt_of_lt_of_le l1 n1.size
    clear n1
    obtain ⟨⟨d0, d1, d2, d3⟩, e0, e1, e2, e3⟩ := four_cells r1.out
    go_wp2_with fail
    clear d0 d1 d2 d3 e0 e1 e2 e3
    refine (walkRoot_any sv zs va satp v1 (HB.out.keep b1) hv0 hv1 hs0 hs1).mono ?_
    rintro e v2 ⟨hw, n2⟩
    rw [HX.out] at hw
    obtain ⟨ra, rc, rfl, o2⟩ := hw
    clear o2
    rw [show faultV 2 = .iface 156 (.agg #[]) from rfl]
    have b2 := Below.step b1 n2 (Nat.le_refl _)
    have r2 : Hid (v2.heap[w.heap.size]? = some (.cells #[.int .i64 mode, .bool sum, .bool mxr, .int .u64 satp] 52 (0, 0))) := heap_keep r1.out n2 l1
    have l2 : w.heap.size < v2.heap.size := Nat.lt_of_lt_of_le l1 n2.size
    obtain ⟨⟨d0, d1, d2, d3⟩, e0, e1, e2, e3⟩ := four_cells r2.out
    have b3 := b2.alloc (by omega) (Obj.cells #[.int .i64 x2, .int .u64 x3, .slice ra rs.length rc] 104)
    clear b1 r1 l1 n2
    go_wp2_with fail
    exact bodyPost_ret (v := .tuple #[.int .u64 0, .iface 156 (.agg #[])]) (by simp [results, Try.results91, go_sem]) rfl ⟨rfl, b3⟩
  · rw [show ansM (3, x2, x3, rs) mode sum mxr kind va = (0, 3) from rfl]
    rw [show faultV 3 = .iface 158 (.agg #[]) from rfl]
    go_enter Try.func91, Try.ntmps91
    go_wp2_with fail
    generalize w.alloc (Obj.cells #[.int .i64 mode, .bool sum, .bool mxr, .int .u64 satp] 52) = v0 at b1 r1 l1 ⊢
    refine (HTR.out v0).mono ?_
    rintro e v1 ⟨rfl, n1⟩
    replace r1 := hid_keep3 r1 n1 l1
    replace b1 := Below.step b1 n1 (Nat.le_refl _)
    replace l1 : w.heap.size < v1.heap.size := Nat.lt_of_lt_of_le l1 n1.size
    clear n1
    obtain ⟨⟨d0, d1, d2, d3⟩, e0, e1, e2, e3⟩ := four_cells r1.out
    go_wp2_with fail
    clear d0 d1 d2 d3 e0 e1 e2 e3
    refine (walkRoot_any sv zs va satp v1 (HB.out.keep b1) hv0 hv1 hs0 hs1).mono ?_
    rintro e v2 ⟨hw, n2⟩
    rw [HX.out] at hw
    obtain ⟨ra, rc, rfl, o2⟩ := hw
    clear o2
    rw [show faultV 3 = .iface 158 (.agg #[]) from rfl]
    have b2 := Below.step b1 n2 (Nat.le_refl _)
    have r2 : Hid (v2.heap[w.heap.size]? = some (.cells #[.int .i64 mode, .bool sum, .bool mxr, .int .u64 satp] 52 (0, 0))) := heap_keep r1.out n2 l1
    have l2 : w.heap.size < v2.heap.size := Nat.lt_of_lt_of_le l1 n2.size
    obtain ⟨⟨d0, d1, d2, d3⟩, e0, e1, e2, e3⟩ := four_cells r2.out
    have b3 := b2.alloc (by omega) (Obj.cells #[.int .i64 x2, .int .u64 x3, .slice ra rs.length rc] 104)
    clear b1 r1 l1 n2
    go_wp2_with fail
    exact bodyPost_ret (v := .tuple #[.int .u64 0, .iface 158 (.agg #[])]) (by simp [results, Try.results91, go_sem]) rfl ⟨rfl, b3⟩

theorem plainPhys_off (sv : Value) (mode : Int) (sum mxr : Bool) (satp kind va : Int) (w : World) (hs0 : 0 ≤ satp) (hs1 : satp ≤ 18446744073709551615) (hon : onM mode satp = false) :
    Calls Try.prog 91 #[sv, ctxV mode sum mxr satp, .int .i64 kind, .int .u64 va] w fun e w' =>
      e = .returned (.tuple #[.int .u64 va, faultV 1]) ∧ Below w.heap.size w w' := by
  have HTR : Hid (∀ w, Calls Try.prog 129 #[.agg #[.int .i64 mode, .bool sum, .bool mxr, .int .u64 satp]] w fun e w' => e = .returned (.bool false) ∧ Below w.heap.size w w') := fun w => by have := translates_at mode sum mxr satp w hs0 hs1; rw [hon] at this; exact this
  clear hon
  unfold ctxV
  have b1 := (Below.refl w.heap.size w).alloc (Nat.le_refl _) (Obj.cells #[.int .i64 mode, .bool sum, .bool mxr, .int .u64 satp] 52)
  rw [show faultV 1 = .nilIface from rfl]
  go_enter Try.func91, Try.ntmps91
  go_wp2_with fail
  generalize w.alloc (Obj.cells #[.int .i64 mode, .bool sum, .bool mxr, .int .u64 satp] 52) = v0 at b1 ⊢
  refine (HTR.out v0).mono ?_
  rintro e v1 ⟨rfl, n1⟩
  have b2 := Below.step b1 n1 (Nat.le_refl _)
  go_wp2_with fail
  exact bodyPost_ret (v := .tuple #[.int .u64 va, .nilIface]) (by simp [results, Try.results91, go_sem]) rfl ⟨rfl, b2⟩

/-- The plain translation of an access: the address, and the code of the fault (1: none). -/
def physA (zs : List Int) (mode : Int) (sum mxr : Bool) (satp kind va : Int) : Int × Int :=
  if onM mode satp = false then (va, 1) else ansM (walkM zs satp va) mode sum mxr kind va

theorem plainPhys_any (sv : Value) (zs : List Int) (mode : Int) (sum mxr : Bool) (satp kind va : Int) (w : World) (hB : SrcAt w sv zs) (hv0 : 0 ≤ va) (hv1 : va ≤ 18446744073709551615) (hs0 : 0 ≤ satp) (hs1 : satp ≤ 18446744073709551615) :
    Calls Try.prog 91 #[sv, ctxV mode sum mxr satp, .int .i64 kind, .int .u64 va] w fun e w' =>
      e = .returned (.tuple #[.int .u64 (physA zs mode sum mxr satp kind va).1, faultV (physA zs mode sum mxr satp kind va).2]) ∧ Below w.heap.size w w' := by
  unfold physA
  cases hon : onM mode satp
  · rw [if_pos rfl]
    exact plainPhys_off sv mode sum mxr satp kind va w hs0 hs1 hon
  · rw [if_neg (by simp)]
    exact plainPhys_on sv zs mode sum mxr satp kind va w hB hv0 hv1 hs0 hs1 hon

theorem answer_ans (r : Int × Int × Int × List RecM) (mode : Int) (sum mxr : Bool) (kind va : Int) (h : r.1 = 1 ∨ r.1 = 2 ∨ r.1 = 3) :
    answerM r mode sum mxr kind va = ((if (ansM r mode sum mxr kind va).2 = 1 then 0 else if (ansM r mode sum mxr kind va).2 = 2 then pageM kind else accessM kind), (ansM r mode sum mxr kind va).1) := by
  unfold answerM ansM leafM
  rcases h with h | h | h <;> rw [h]
  · cases grantM r.2.2.1 kind mode sum mxr <;> simp
  · simp
  · simp

theorem ansM_code (r : Int × Int × Int × List RecM) (mode : Int) (sum mxr : Bool) (kind va : Int) (h : r.1 = 1 ∨ r.1 = 2 ∨ r.1 = 3) :
    (ansM r mode sum mxr kind va).2 = 1 ∨ (ansM r mode sum mxr kind va).2 = 2 ∨ (ansM r mode sum mxr kind va).2 = 3 := by
  unfold ansM
  rcases h with h | h | h <;> rw [h]
  · cases grantM r.2.2.1 kind mode sum mxr <;> simp
  · simp
  · simp

set_option maxRecDepth 20000 in
theorem implPlain_any (a : Option Addr) (len cap : Nat) (zs : List Int) (mode : Int) (sum mxr : Bool) (satp kind va : Int) (w : World) (hB : Byt w a len zs) (hlen : len ≤ 1048576) (hv0 : 0 ≤ va) (hv1 : va ≤ 18446744073709551615) (hs0 : 0 ≤ satp) (hs1 : satp ≤ 18446744073709551615) :
    Calls Try.prog 39 #[.slice a len cap, ctxV mode sum mxr satp, .int .i64 kind, .int .u64 va] w fun e w' => e = .returned (transV (plainM zs mode sum mxr satp kind va)) ∧ Below w.heap.size w w' := by
  have HB : Hid (Byt w a len zs) := hB
  clear hB
  have HKA : Hid (∀ w, Calls Try.prog 90 #[.agg #[.int .i64 mode, .bool sum, .bool mxr, .int .u64 satp], .int .i64 kind] w fun e w' => e = .returned (.bool (decide (0 ≤ kind ∧ kind ≤ 2 ∧ 0 ≤ mode ∧ mode ≤ 2))) ∧ Below w.heap.size w w') := fun w => knownAccess_at mode sum mxr satp kind w
  have n0 := ((Below.refl w.heap.size w).alloc (Nat.le_refl _) (Obj.cells #[.int .i64 mode, .bool sum, .bool mxr, .int .u64 satp] 52)).alloc (by simp) (Obj.cells #[.int .i64 0, .int .u64 0] 50)
  have H1 : Hid (((w.alloc (Obj.cells #[.int .i64 mode, .bool sum, .bool mxr, .int .u64 satp] 52)).alloc (Obj.cells #[.int .i64 0, .int .u64 0] 50)).heap[w.heap.size + 1]? = some (.cells #[.int .i64 0, .int .u64 0] 50 (0, 0))) := by
    have := heap_alloc_new (w.alloc (Obj.cells #[.int .i64 mode, .bool sum, .bool mxr, .int .u64 satp] 52)) (Obj.cells #[.int .i64 0, .int .u64 0] 50)
    simp only [World.size_alloc] at this
    exact this
  have H2 : Hid (((w.alloc (Obj.cells #[.int .i64 mode, .bool sum, .bool mxr, .int .u64 satp] 52)).alloc (Obj.cells #[.int .i64 0, .int .u64 0] 50)).heap[w.heap.size]? = some (.cells #[.int .i64 mode, .bool sum, .bool mxr, .int .u64 satp] 52 (0, 0))) := by
    show _ = _
    rw [Below.heap_alloc _ _ _ (by simp)]
    exact heap_alloc_new _ _
  have l0 : w.heap.size + 1 < ((w.alloc (Obj.cells #[.int .i64 mode, .bool sum, .bool mxr, .int .u64 satp] 52)).alloc (Obj.cells #[.int .i64 0, .int .u64 0] 50)).heap.size := by simp
  unfold ctxV
  obtain ⟨⟨p1, p2⟩, hP⟩ : ∃ P, plainM zs mode sum mxr satp kind va = P := ⟨_, rfl⟩
  rw [hP]
  have HP : Hid (plainM zs mode sum mxr satp kind va = (p1, p2)) := hP
  clear hP
  rw [show transV (p1, p2) = .agg #[.int .i64 p1, .int .u64 p2] from rfl]
  go_enter Try.func39, Try.ntmps39
  go_wp2_with fail
  generalize (w.alloc (Obj.cells #[.int .i64 mode, .bool sum, .bool mxr, .int .u64 satp] 52)).alloc (Obj.cells #[.int .i64 0, .int .u64 0] 50) = v1 at n0 H1 H2 l0 ⊢
  refine (HKA.out v1).mono ?_
  rintro e v2 ⟨rfl, n2⟩
  have n12 := Below.step n0 n2 (Nat.le_refl _)
  have K1 : Hid (v2.heap[w.heap.size + 1]? = some (.cells #[.int .i64 0, .int .u64 0] 50 (0, 0))) := heap_keep H1.out n2 l0
  have K2 : Hid (v2.heap[w.heap.size]? = some (.cells #[.int .i64 mode, .bool sum, .bool mxr, .int .u64 satp] 52 (0, 0))) := heap_keep H2.out n2 (by omega)
  have l2 : w.heap.size + 1 < v2.heap.size := Nat.lt_of_lt_of_le l0 n2.size
  clear n0 n2 H1 H2 l0
  by_cases hbad : kind < 0 ∨ 2 < kind ∨ mode < 0 ∨ 2 < mode
  · have hd : decide (0 ≤ kind ∧ kind ≤ 2 ∧ 0 ≤ mode ∧ mode ≤ 2) = false := by rw [decide_eq_false_iff_not]; omega
    have hz : (p1, p2) = (63, 0) := by rw [← HP.out]; unfold plainM; rw [if_pos hbad]
    cases hz
    rw [hd]
    clear hbad hd
    obtain ⟨⟨d0, d1⟩, e0, e1⟩ := two_cells K1.out
    go_wp2_with fail
    exact bodyPost_ret (v := .agg #[.int .i64 63, .int .u64 0]) (by simp [results, Try.results39, go_sem, d0, d1]) rfl ⟨rfl, bel2 n12 (by omega) _ _⟩
  · have hd : decide (0 ≤ kind ∧ kind ≤ 2 ∧ 0 ≤ mode ∧ mode ≤ 2) = true := by rw [decide_eq_true_eq]; omega
    have HP2 : Hid ((p1, p2) = if onM mode satp = false then (0, va) else answerM (walkM zs satp va) mode sum mxr kind va) := by
      show _ = _
      rw [← HP.out]; unfold plainM; rw [if_neg hbad]
    rw [hd]
    clear hbad hd HP
    have hcd := walkM_code zs satp va
    have HPP : Hid (∀ w, Byt w a len zs → Calls Try.prog 91 #[.iface 86 (.slice a len cap), .agg #[.int .i64 mode, .bool sum, .bool mxr, .int .u64 satp], .int .i64 kind, .int .u64 va] w fun e w' =>
        e = .returned (.tuple #[.int .u64 (physA zs mode sum mxr satp kind va).1, faultV (physA zs mode sum mxr satp kind va).2]) ∧ Below w.heap.size w w') :=
        fun w h => plainPhys_any _ zs mode sum mxr satp kind va w (src_mem cap h hlen) hv0 hv1 hs0 hs1
    have HA : Hid ((p1, p2) = ((if (physA zs mode sum mxr satp kind va).2 = 1 then 0 else if (physA zs mode sum mxr satp kind va).2 = 2 then pageM kind else accessM kind), (physA zs mode sum mxr satp kind va).1)) := by
      show _ = _
      rw [HP2.out]
      unfold physA
      cases onM mode satp
      · simp
      · simp only [Bool.true_eq_false, if_false]
        exact answer_ans (walkM zs satp va) mode sum mxr kind va hcd
    have hac : (physA zs mode sum mxr satp kind va).2 = 1 ∨ (physA zs mode sum mxr satp kind va).2 = 2 ∨ (physA zs mode sum mxr satp kind va).2 = 3 := by
      unfold physA
      cases onM mode satp
      · simp
      · simp only [Bool.true_eq_false, if_false]
        exact ansM_code (walkM zs satp va) mode sum mxr kind va hcd
    generalize physA zs mode sum mxr satp kind va = A at HPP HA hac
    obtain ⟨y1, y2⟩ := A
    simp only at HPP HA hac
    have hq := HA.out
    injection hq with hq1 hq2
    subst hq2
    obtain ⟨fv, hfv⟩ : ∃ fv, faultV y2 = fv := ⟨_, rfl⟩
    have HCO : Hid (∀ w, Calls Try.prog 92 #[fv, .int .i64 kind] w fun e w' => e = .returned (.int .i64 p1) ∧ w' = w) := by
      intro w
      rw [← hfv, hq1]
      exact causeOf_at y2 kind w hac
    rw [hfv] at HPP
    clear hfv hcd HA hac hq1 HP2
    obtain ⟨⟨k0, k1, k2, k3⟩, _, _, _, _⟩ := four_cells K2.out
    go_wp2_with fail
    refine (HPP.out _ (HB.out.keep n12)).mono ?_
    rintro e v4 ⟨rfl, n4⟩
    have n14 := Below.step n12 n4 (Nat.le_refl _)
    obtain ⟨⟨d0, d1⟩, e0, e1⟩ := two_cells (heap_keep K1.out n4 l2)
    clear K1 K2 k0 k1 k2 k3 n12 n4 HPP
    go_wp2_with (go_at_call 92; refine (HCO.out _).mono ?_; rintro e w' ⟨rfl, rfl⟩)
    exact bodyPost_ret (v := .agg #[.int .i64 p1, .int .u64 p2]) (by simp [results, Try.results39, go_sem, d0, d1]) rfl ⟨rfl, bel2 n14 (by omega) _ _⟩

end Go.Proofs.Ythekickjjaleaab
