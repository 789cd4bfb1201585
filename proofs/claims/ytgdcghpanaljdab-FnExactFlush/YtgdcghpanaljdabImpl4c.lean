/- The program's coverageOf: a fence as a function value. -/
import Derived.Test.YtgdcghpanaljdabImpl4f
import Derived.Test.YtgdcghpanaljdabMath4b
import Derived.Test.YtgdcghpanaljdabOwn
namespace Go.Proofs.Ytgdcghpanaljdab
open Go.RowKit
set_option linter.unusedVariables false

/-- Whether an entry is covered, the address being canonical or not asked. -/
def covB (f : FenceM) (lv tg asd : Int) (gl : Bool) : Bool := (!f.hasVa || tg == tagM f.va lv) && (!f.hasAsid || (!gl && asd == f.asid))

theorem covB_covers (f : FenceM) (lv tg asd : Int) (gl : Bool) (h : f.hasVa = false ∨ canonM f.va = true) : covB f lv tg asd gl = coversM f lv tg asd gl := by
  unfold covB coversM
  rcases h with h | h
  · rw [h]; simp
  · rw [h]
    cases f.hasVa <;> simp [bne]

theorem covers_not (f : FenceM) (lv tg asd : Int) (gl : Bool) (h1 : f.hasVa = true) (h2 : canonM f.va = false) : coversM f lv tg asd gl = false := by
  unfold coversM
  rw [h1, h2]
  simp

theorem cover1_any (lv tg asd : Int) (gl : Bool) (w : World) :
    Calls Try.prog 146 #[.agg #[.int .i64 lv, .int .u64 tg, .int .u64 asd, .bool gl]] w fun e w' => e = .returned (.bool false) ∧ Below w.heap.size w w' := by
  have n1 := (Below.refl w.heap.size w).alloc (Nat.le_refl _) (Obj.cells #[.int .i64 lv, .int .u64 tg, .int .u64 asd, .bool gl] 165)
  go_enter Try.func146, Try.ntmps146
  go_wp2_with fail
  go_ret
  exact ⟨rfl, by first | exact n1 | exact Below.refl _ _⟩

set_option maxHeartbeats 1600000 in
theorem cover2_any (hv : Bool) (fva : Int) (ha : Bool) (fa : Int) (lv tg asd : Int) (gl : Bool) (pf pv : Nat) (w : World) (hl : lv = 0 ∨ lv = 1 ∨ lv = 2) (hv0 : 0 ≤ fva) (hv1 : fva ≤ 18446744073709551615)
    (hF : w.heap[pf]? = some (.cells #[.bool hv, .int .u64 fva, .bool ha, .int .u64 fa] 82 (0, 0))) (hV : w.heap[pv]? = some (.cells #[.int .u64 fva] 94 (0, 0))) :
    Calls Try.prog 147 #[.agg #[.int .i64 lv, .int .u64 tg, .int .u64 asd, .bool gl], .pointer (some ⟨pf, 0, none⟩), .pointer (some ⟨pv, 0, none⟩)] w fun e w' => e = .returned (.bool (covB ⟨hv, fva, ha, fa⟩ lv tg asd gl)) ∧ Below w.heap.size w w' := by
  have n1 := (Below.refl w.heap.size w).alloc (Nat.le_refl _) (Obj.cells #[.int .i64 lv, .int .u64 tg, .int .u64 asd, .bool gl] 165)
  have H1 : Hid ((w.alloc (Obj.cells #[.int .i64 lv, .int .u64 tg, .int .u64 asd, .bool gl] 165)).heap[w.heap.size]? = some (.cells #[.int .i64 lv, .int .u64 tg, .int .u64 asd, .bool gl] 165 (0, 0))) := heap_alloc_new w _
  have lf : pf < w.heap.size := (Array.getElem?_eq_some_iff.1 hF).1
  have lv' : pv < w.heap.size := (Array.getElem?_eq_some_iff.1 hV).1
  have F1 : Hid ((w.alloc (Obj.cells #[.int .i64 lv, .int .u64 tg, .int .u64 asd, .bool gl] 165)).heap[pf]? = some (.cells #[.bool hv, .int .u64 fva, .bool ha, .int .u64 fa] 82 (0, 0))) := heap_keep hF n1 lf
  have V1 : Hid ((w.alloc (Obj.cells #[.int .i64 lv, .int .u64 tg, .int .u64 asd, .bool gl] 165)).heap[pv]? = some (.cells #[.int .u64 fva] 94 (0, 0))) := heap_keep hV n1 lv'
  obtain ⟨sb, hsb⟩ : ∃ sb, (tg == tagM fva lv) = sb := ⟨_, rfl⟩
  have HSp : Hid (∀ w, Calls Try.prog 148 #[.agg #[.int .i64 lv, .int .u64 tg, .int .u64 asd, .bool gl], .int .u64 fva] w fun e w' => e = .returned (.bool sb) ∧ Below w.heap.size w w') := fun w => by
    have := spans_any lv tg asd fva gl w hl hv0 hv1
    rw [hsb] at this
    exact this
  have hcov : covB ⟨hv, fva, ha, fa⟩ lv tg asd gl = ((!hv || sb) && (!ha || (!gl && asd == fa))) := by unfold covB; rw [hsb]
  rw [hcov]
  obtain ⟨⟨f0, f1, f2, f3⟩, _, _, _, _⟩ := four_cells hF
  have vc : w.cell? ⟨pv, 0, none⟩ = some (.int .u64 fva) := by simp [World.cell?, hV]
  clear hsb hcov hF hV
  cases hv
  · cases ha
    · go_enter Try.func147, Try.ntmps147
      go_wp2_with fail
      go_ret
      exact ⟨ret_bool (by simp), n1⟩
    · cases gl
      all_goals
        go_enter Try.func147, Try.ntmps147
        go_wp2_with fail
        go_ret
        exact ⟨ret_bool (by simp), n1⟩
  · cases ha
    · cases sb
      all_goals
        go_enter Try.func147, Try.ntmps147
        go_wp2_with fail
        generalize w.alloc (Obj.cells #[.int .i64 lv, .int .u64 tg, .int .u64 asd, .bool gl] 165) = v1 at n1 H1 F1 V1 ⊢
        refine (HSp.out v1).mono ?_
        rintro e v2 ⟨rfl, n2⟩
        have A2 := Below.step n1 n2 (Nat.le_refl _)
        have F2 := hid_keep F1 n2
        have R2 := hid_keep H1 n2
        clear f0 f1 f2 f3 vc
        obtain ⟨⟨f0, f1, f2, f3⟩, _, _, _, _⟩ := four_cells F2.out
        obtain ⟨⟨r0, r1, r2, r3⟩, _, _, _, _⟩ := four_cells R2.out
        go_wp2_with fail
        go_ret
        exact ⟨ret_bool (by simp), A2⟩
    · cases sb <;> cases gl
      all_goals
        go_enter Try.func147, Try.ntmps147
        go_wp2_with fail
        generalize hv1 : w.alloc _ = v1 at n1 H1 F1 V1 ⊢
        refine (HSp.out v1).mono ?_
        rintro e v2 ⟨rfl, n2⟩
        have A2 := Below.step n1 n2 (Nat.le_refl _)
        have F2 := hid_keep F1 n2
        have R2 := hid_keep H1 n2
        clear f0 f1 f2 f3 vc
        obtain ⟨⟨f0, f1, f2, f3⟩, _, _, _, _⟩ := four_cells F2.out
        obtain ⟨⟨r0, r1, r2, r3⟩, _, _, _, _⟩ := four_cells R2.out
        go_wp2_with fail
        go_ret
        exact ⟨ret_bool (by simp), A2⟩

/-- What coverageOf answers. -/
def CovAns (base : Nat) (w : World) (e : Ending) (f : FenceM) : Prop :=
  (f.hasVa = true ∧ canonM f.va = false ∧ e = .returned (.func (.func 146) #[] #[])) ∨
  ((f.hasVa = false ∨ canonM f.va = true) ∧ ∃ pf pv, e = .returned (.func (.func 147) #[] #[.pointer (some ⟨pf, 0, none⟩), .pointer (some ⟨pv, 0, none⟩)]) ∧ base ≤ pf ∧ base ≤ pv ∧
    w.heap[pf]? = some (.cells #[.bool f.hasVa, .int .u64 f.va, .bool f.hasAsid, .int .u64 f.asid] 82 (0, 0)) ∧ w.heap[pv]? = some (.cells #[.int .u64 f.va] 94 (0, 0)))

theorem coverageOf_any (hv : Bool) (fva : Int) (ha : Bool) (fa : Int) (w : World) (hv0 : 0 ≤ fva) (hv1 : fva ≤ 18446744073709551615) :
    Calls Try.prog 111 #[.agg #[.bool hv, .int .u64 fva, .bool ha, .int .u64 fa]] w fun e w' => CovAns w.heap.size w' e ⟨hv, fva, ha, fa⟩ ∧ Below w.heap.size w w' := by
  have n1 := ((Below.refl w.heap.size w).alloc (Nat.le_refl _) (Obj.cells #[.bool hv, .int .u64 fva, .bool ha, .int .u64 fa] 82)).alloc (by simp) (Obj.cells #[.int .u64 fva] 94)
  have H1 : Hid (((w.alloc (Obj.cells #[.bool hv, .int .u64 fva, .bool ha, .int .u64 fa] 82)).alloc (Obj.cells #[.int .u64 fva] 94)).heap[w.heap.size]? = some (.cells #[.bool hv, .int .u64 fva, .bool ha, .int .u64 fa] 82 (0, 0))) := by
    show _ = _
    rw [heap_alloc_old _ _ (by simp)]
    exact heap_alloc_new w _
  have H2 : Hid (((w.alloc (Obj.cells #[.bool hv, .int .u64 fva, .bool ha, .int .u64 fa] 82)).alloc (Obj.cells #[.int .u64 fva] 94)).heap[w.heap.size + 1]? = some (.cells #[.int .u64 fva] 94 (0, 0))) := by
    have := heap_alloc_new (w.alloc (Obj.cells #[.bool hv, .int .u64 fva, .bool ha, .int .u64 fa] 82)) (Obj.cells #[.int .u64 fva] 94)
    simp only [World.size_alloc] at this
    exact this
  obtain ⟨cb, hcb⟩ : ∃ cb, canonM fva = cb := ⟨_, rfl⟩
  have HCan : Hid (∀ u : World, Calls Try.prog 73 #[.int .u64 fva] u fun e w' => e = .returned (.bool cb) ∧ w' = u) := fun u => by
    have := canonical_at fva u hv0 hv1
    rw [hcb] at this
    exact this
  have HCb : Hid (canonM fva = cb) := hcb
  clear hcb
  cases hv
  · go_enter Try.func111, Try.ntmps111
    go_wp2_with fail
    go_ret
    exact ⟨.inr ⟨.inl rfl, _, _, rfl, Nat.le_refl _, by omega, H1.out, H2.out⟩, n1⟩
  · cases cb
    · go_enter Try.func111, Try.ntmps111
      go_wp2_with (go_at_call 73; refine (HCan.out _).mono ?_; rintro e w' ⟨rfl, rfl⟩)
      go_ret
      exact ⟨.inl ⟨rfl, HCb.out, rfl⟩, n1⟩
    · go_enter Try.func111, Try.ntmps111
      go_wp2_with (go_at_call 73; refine (HCan.out _).mono ?_; rintro e w' ⟨rfl, rfl⟩)
      go_ret
      exact ⟨.inr ⟨.inr HCb.out, _, _, rfl, Nat.le_refl _, by omega, H1.out, H2.out⟩, n1⟩

end Go.Proofs.Ytgdcghpanaljdab
