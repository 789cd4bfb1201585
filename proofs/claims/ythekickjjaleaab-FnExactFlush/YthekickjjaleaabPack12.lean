import Derived.Test.YthekickjjaleaabPack08
import Derived.Test.YthekickjjaleaabPack11
import Derived.Test.YthekickjjaleaabPack05
/- Plain mathematics of chapter 4: where the entry that is found stands. -/
namespace Go.Proofs.Ythekickjjaleaab
set_option linter.unusedVariables false

theorem tagM_lim (va l : Int) (hl : l = 0 ∨ l = 1 ∨ l = 2) : 0 ≤ tagM va l ∧ tagM va l ≤ 511 := by
  rcases hl with rfl | rfl | rfl <;> simp only [tagM] <;> (try simp) <;> omega

/-- An entry that fits at a level stands in the set of the address's tag. -/
theorem hit_set {t : TlbM} {p : Bool} {va asid l : Int} {q : Nat} {x : EntM} (hv : validM t p = true) (hx : t.es[q]? = some x) (hh : hitB va asid l x = true) : (q : Int) / t.ways = tagM va l % t.sets := by
  have hp := place_of hv q x hx
  simp only [hitB, fitsM, Bool.and_eq_true, beq_iff_eq] at hh
  obtain ⟨h1, ⟨h2, h3⟩, _⟩ := hh
  simp only [placeM, Bool.or_eq_true, Bool.and_eq_true, beq_iff_eq] at hp
  rcases hp with hp | hp
  · rw [h2] at hp; simp at hp
  · rw [← hp.2, h3, h1]

theorem shape_at {t : TlbM} {p : Bool} (hv : validM t p = true) : (t.sets = 1 ∨ t.sets = 2 ∨ t.sets = 4 ∨ t.sets = 8) ∧ 1 ≤ t.ways ∧ t.ways ≤ 4 ∧ (t.es.length : Int) = t.sets * t.ways := shape_of hv

/-- Outside of the set nothing is found. -/
theorem hit_out {t : TlbM} {p : Bool} {va asid l : Int} {q f : Nat} {x : EntM} (hv : validM t p = true) (hx : t.es[q]? = some x) (hf : (f : Int) = tagM va l % t.sets * t.ways) (hq : q < f ∨ (f : Int) + t.ways ≤ q) : hitB va asid l x = false := by
  cases hh : hitB va asid l x
  · rfl
  · exfalso
    have h1 := hit_set hv hx hh
    obtain ⟨_, w1, w4, _⟩ := shape_at hv
    rw [← h1] at hf
    rcases (show t.ways = 1 ∨ t.ways = 2 ∨ t.ways = 3 ∨ t.ways = 4 by omega) with hw | hw | hw | hw <;> rw [hw] at hf hq <;> omega

/-- The end of the search in one set. -/
theorem find_none {t : TlbM} {p : Bool} {va asid l : Int} {f : Nat} (hv : validM t p = true) (hf : (f : Int) = tagM va l % t.sets * t.ways)
    (h : ∀ (j : Nat) x, (j : Int) < t.ways → t.es[f + j]? = some x → hitB va asid l x = false) : findL va asid l 0 t.es = none := by
  refine findL_none va asid l t.es 0 (fun j x hx => ?_)
  by_cases h1 : j < f
  · exact hit_out hv hx hf (.inl h1)
  · by_cases h2 : (f : Int) + t.ways ≤ j
    · exact hit_out hv hx hf (.inr h2)
    · exact h (j - f) x (by omega) (by rw [show f + (j - f) = j by omega]; exact hx)

theorem find_some {t : TlbM} {p : Bool} {va asid l : Int} {f k : Nat} {x : EntM} (hv : validM t p = true) (hf : (f : Int) = tagM va l % t.sets * t.ways) (hx : t.es[f + k]? = some x) (hh : hitB va asid l x = true)
    (h : ∀ (j : Nat) y, j < k → t.es[f + j]? = some y → hitB va asid l y = false) : findL va asid l 0 t.es = some (f + k, x) := by
  have := findL_some va asid l t.es 0 (f + k) x hx hh (fun j y hj hy => by
    by_cases h1 : j < f
    · exact hit_out hv hy hf (.inl h1)
    · exact h (j - f) y (by omega) (by rw [show f + (j - f) = j by omega]; exact hy))
  rw [Nat.zero_add] at this
  exact this

theorem findL_get (va asid l : Int) : ∀ (es : List EntM) (i k : Nat) (x : EntM), findL va asid l i es = some (k, x) → ∃ j, k = i + j ∧ es[j]? = some x ∧ hitB va asid l x = true
  | [], i, k, x, h => by cases h
  | e :: r, i, k, x, h => by
    rw [findL] at h
    split at h
    · rename_i hh
      cases h
      exact ⟨0, rfl, rfl, hh⟩
    · obtain ⟨j, rfl, h2, h3⟩ := findL_get va asid l r (i + 1) k x h
      exact ⟨j + 1, by omega, by simpa using h2, h3⟩

/-- What is found is an entry of the cache. -/
theorem hit_get (t : TlbM) (va asid : Int) (h : (hitM t va asid).1 = true) : ∃ (k : Nat) (x : EntM), t.es[k]? = some x ∧ (hitM t va asid).2.1 = (k : Int) ∧ (hitM t va asid).2.2.1 = x.level ∧ (hitM t va asid).2.2.2 = x.pte ∧ fitsM x va asid = true ∧ x.valid = true := by
  have key : ∀ (l : Int) (k : Nat) (x : EntM), findL va asid l 0 t.es = some (k, x) → t.es[k]? = some x ∧ l = x.level ∧ fitsM x va asid = true ∧ x.valid = true := by
    intro l k x hf
    obtain ⟨j, rfl, h2, h3⟩ := findL_get va asid l t.es 0 k x hf
    simp only [hitB, Bool.and_eq_true, beq_iff_eq] at h3
    have hv : x.valid = true := by
      have := h3.2
      simp only [fitsM, Bool.and_eq_true] at this
      exact this.1.1
    exact ⟨by rw [Nat.zero_add]; exact h2, h3.1.symm, h3.2, hv⟩
  unfold hitM at h ⊢
  split at h
  · cases h
  · rename_i he
    rw [if_neg he]
    cases h0 : findL va asid 0 0 t.es with
    | some y =>
      obtain ⟨k, x⟩ := y
      obtain ⟨a1, a2, a3, a4⟩ := key 0 k x h0
      exact ⟨k, x, a1, by simp [hitOf], by simp [hitOf, ← a2], by simp [hitOf], a3, a4⟩
    | none =>
      cases h1 : findL va asid 1 0 t.es with
      | some y =>
        obtain ⟨k, x⟩ := y
        obtain ⟨a1, a2, a3, a4⟩ := key 1 k x h1
        exact ⟨k, x, a1, by simp [hitOf], by simp [hitOf, ← a2], by simp [hitOf], a3, a4⟩
      | none =>
        cases h2 : findL va asid 2 0 t.es with
        | some y =>
          obtain ⟨k, x⟩ := y
          obtain ⟨a1, a2, a3, a4⟩ := key 2 k x h2
          exact ⟨k, x, a1, by simp [hitOf], by simp [hitOf, ← a2], by simp [hitOf], a3, a4⟩
        | none =>
          rw [h0, h1, h2] at h
          simp [hitOf] at h

theorem hit_zero {t : TlbM} {va asid i l pt : Int} (h : hitM t va asid = (false, i, l, pt)) : (i, l, pt) = (0, 0, 0) := by
  unfold hitM at h
  split at h
  · cases h; rfl
  · cases h0 : findL va asid 0 0 t.es with
    | some y => simp [h0, hitOf] at h
    | none =>
      cases h1 : findL va asid 1 0 t.es with
      | some y => simp [h0, h1, hitOf] at h
      | none =>
        cases h2 : findL va asid 2 0 t.es with
        | some y => simp [h0, h1, h2, hitOf] at h
        | none =>
          simp [h0, h1, h2, hitOf] at h
          obtain ⟨rfl, rfl, rfl⟩ := h
          rfl

end Go.Proofs.Ythekickjjaleaab

/- The program's spans and fits. -/
namespace Go.Proofs.Ythekickjjaleaab
open Go.RowKit
set_option linter.unusedVariables false

theorem spans_any (lv tg asd va : Int) (gl : Bool) (w : World) (hl : lv = 0 ∨ lv = 1 ∨ lv = 2) (hv0 : 0 ≤ va) (hv1 : va ≤ 18446744073709551615) :
    Calls Try.prog 148 #[.agg #[.int .i64 lv, .int .u64 tg, .int .u64 asd, .bool gl], .int .u64 va] w fun e w' => e = .returned (.bool (tg == tagM va lv)) ∧ Below w.heap.size w w' := by
  have n1 := (Below.refl w.heap.size w).alloc (Nat.le_refl _) (Obj.cells #[.int .i64 lv, .int .u64 tg, .int .u64 asd, .bool gl] 165)
  obtain ⟨tm, htm⟩ : ∃ tm, tagM va lv = tm := ⟨_, rfl⟩
  have HT : Hid (∀ w, Calls Try.prog 154 #[.int .u64 va, .int .i64 lv] w fun e w' => e = .returned (.int .u64 tm) ∧ ∃ n, w' = w.drewN n) := fun w => by
    have := tag_at va lv w hv0 hv1 hl
    rw [htm] at this
    exact this
  rw [htm]
  clear htm
  go_enter Try.func148, Try.ntmps148
  go_wp2_with fail
  go_quiet ((go_at_call 154; exact Calls.quiet_of (HT.out _)))
  go_wp2_with fail
  go_ret
  exact ⟨rfl, below_drewN n1 nq⟩

theorem fits_any (lv tg asd va asid : Int) (gl : Bool) (w : World) (hl : lv = 0 ∨ lv = 1 ∨ lv = 2) (hv0 : 0 ≤ va) (hv1 : va ≤ 18446744073709551615) :
    Calls Try.prog 155 #[.agg #[.int .i64 lv, .int .u64 tg, .int .u64 asd, .bool gl], .int .u64 va, .int .u64 asid] w fun e w' => e = .returned (.bool ((tg == tagM va lv) && (gl || asd == asid))) ∧ Below w.heap.size w w' := by
  have n1 := (Below.refl w.heap.size w).alloc (Nat.le_refl _) (Obj.cells #[.int .i64 lv, .int .u64 tg, .int .u64 asd, .bool gl] 165)
  have H1 : Hid ((w.alloc (Obj.cells #[.int .i64 lv, .int .u64 tg, .int .u64 asd, .bool gl] 165)).heap[w.heap.size]? = some (.cells #[.int .i64 lv, .int .u64 tg, .int .u64 asd, .bool gl] 165 (0, 0))) := heap_alloc_new w _
  obtain ⟨sb, hsb⟩ : ∃ sb, (tg == tagM va lv) = sb := ⟨_, rfl⟩
  have HS : Hid (∀ w, Calls Try.prog 148 #[.agg #[.int .i64 lv, .int .u64 tg, .int .u64 asd, .bool gl], .int .u64 va] w fun e w' => e = .returned (.bool sb) ∧ Below w.heap.size w w') := fun w => by
    have := spans_any lv tg asd va gl w hl hv0 hv1
    rw [hsb] at this
    exact this
  rw [hsb]
  clear hsb
  cases sb <;> cases gl
  all_goals
    go_enter Try.func155, Try.ntmps155
    go_wp2_with fail
    generalize hv1 : w.alloc _ = v1 at n1 H1 ⊢
    refine (HS.out v1).mono ?_
    rintro e v2 ⟨rfl, n2⟩
    have K1 := heap_keep H1.out n2 (Array.getElem?_eq_some_iff.1 H1.out).1
    obtain ⟨⟨x0, x1, x2, x3⟩, _, _, _, _⟩ := four_cells K1
    have A2 := Below.step n1 n2 (Nat.le_refl _)
    go_wp2_with fail
    go_ret
    exact ⟨ret_bool (by simp), A2⟩

end Go.Proofs.Ythekickjjaleaab

/- The program's coverageOf: a fence as a function value. -/
namespace Go.Proofs.Ythekickjjaleaab
open Go.RowKit
set_option linter.unusedVariables false

/-- Whether an entry is covered, the address being canonical or not asked. -/
def covB (f : FenceM) (lv tg asd : Int) (gl : Bool) : Bool := (!f.hasVa || tg == tagM f.va lv) && (!f.hasAsid || (!gl && asd == f.asid))

theorem covB_covers (f : FenceM) (lv tg asd : Int) (gl : Bool) (h : f.hasVa = false ∨ canonM f.va = true) : covB f lv tg asd gl = coversM f lv tg asd gl := by
  unfold covB coversM
  rcases h with h | h
  · rw [h]; simp
  · rw [h]
    cases f.hasVa <;> simp [bne]

theorem covers_not (f : FenceM) (lv tg asd : Int) (gl : Bool) (h1 : f.hasVa = true) (h2 : canonM f.va = false) : coversM f lv tg asd gl = false := by
  unfold coversM
  rw [h1, h2]
  simp

theorem cover1_any (lv tg asd : Int) (gl : Bool) (w : World) :
    Calls Try.prog 146 #[.agg #[.int .i64 lv, .int .u64 tg, .int .u64 asd, .bool gl]] w fun e w' => e = .returned (.bool false) ∧ Below w.heap.size w w' := by
  have n1 := (Below.refl w.heap.size w).alloc (Nat.le_refl _) (Obj.cells #[.int .i64 lv, .int .u64 tg, .int .u64 asd, .bool gl] 165)
  go_enter Try.func146, Try.ntmps146
  go_wp2_with fail
  go_ret
  exact ⟨rfl, by first | exact n1 | exact Below.refl _ _⟩

set_option maxHeartbeats 1600000 in
theorem cover2_any (hv : Bool) (fva : Int) (ha : Bool) (fa : Int) (lv tg asd : Int) (gl : Bool) (pf pv : Nat) (w : World) (hl : lv = 0 ∨ lv = 1 ∨ lv = 2) (hv0 : 0 ≤ fva) (hv1 : fva ≤ 18446744073709551615)
    (hF : w.heap[pf]? = some (.cells #[.bool hv, .int .u64 fva, .bool ha, .int .u64 fa] 82 (0, 0))) (hV : w.heap[pv]? = some (.cells #[.int .u64 fva] 94 (0, 0))) :
    Calls Try.prog 147 #[.agg #[.int .i64 lv, .int .u64 tg, .int .u64 asd, .bool gl], .pointer (some ⟨pf, 0, none⟩), .pointer (some ⟨pv, 0, none⟩)] w fun e w' => e = .returned (.bool (covB ⟨hv, fva, ha, fa⟩ lv tg asd gl)) ∧ Below w.heap.size w w' := by
  have n1 := (Below.refl w.heap.size w).alloc (Nat.le_refl _) (Obj.cells #[.int .i64 lv, .int .u64 tg, .int .u64 asd, .bool gl] 165)
  have H1 : Hid ((w.alloc (Obj.cells #[.int .i64 lv, .int .u64 tg, .int .u64 asd, .bool gl] 165)).heap[w.heap.size]? = some (.cells #[.int .i64 lv, .int .u64 tg, .int .u64 asd, .bool gl] 165 (0, 0))) := heap_alloc_new w _
  have lf : pf < w.heap.size := (Array.getElem?_eq_some_iff.1 hF).1
  have lv' : pv < w.heap.size := (Array.getElem?_eq_some_iff.1 hV).1
  have F1 : Hid ((w.alloc (Obj.cells #[.int .i64 lv, .int .u64 tg, .int .u64 asd, .bool gl] 165)).heap[pf]? = some (.cells #[.bool hv, .int .u64 fva, .bool ha, .int .u64 fa] 82 (0, 0))) := heap_keep hF n1 lf
  have V1 : Hid ((w.alloc (Obj.cells #[.int .i64 lv, .int .u64 tg, .int .u64 asd, .bool gl] 165)).heap[pv]? = some (.cells #[.int .u64 fva] 94 (0, 0))) := heap_keep hV n1 lv'
  obtain ⟨sb, hsb⟩ : ∃ sb, (tg == tagM fva lv) = sb := ⟨_, rfl⟩
  have HSp : Hid (∀ w, Calls Try.prog 148 #[.agg #[.int .i64 lv, .int .u64 tg, .int .u64 asd, .bool gl], .int .u64 fva] w fun e w' => e = .returned (.bool sb) ∧ Below w.heap.size w w') := fun w => by
    have := spans_any lv tg asd fva gl w hl hv0 hv1
    rw [hsb] at this
    exact this
  have hcov : covB ⟨hv, fva, ha, fa⟩ lv tg asd gl = ((!hv || sb) && (!ha || (!gl && asd == fa))) := by unfold covB; rw [hsb]
  rw [hcov]
  obtain ⟨⟨f0, f1, f2, f3⟩, _, _, _, _⟩ := four_cells hF
  have vc : w.cell? ⟨pv, 0, none⟩ = some (.int .u64 fva) := by simp [World.cell?, hV]
  clear hsb hcov hF hV
  cases hv
  · cases ha
    · go_enter Try.func147, Try.ntmps147
      go_wp2_with fail
      go_ret
      exact ⟨ret_bool (by simp), n1⟩
    · cases gl
      all_goals
        go_enter Try.func147, Try.ntmps147
        go_wp2_with fail
        go_ret
        exact ⟨ret_bool (by simp), n1⟩
  · cases ha
    · cases sb
      all_goals
        go_enter Try.func147, Try.ntmps147
        go_wp2_with fail
        generalize w.alloc (Obj.cells #[.int .i64 lv, .int .u64 tg, .int .u64 asd, .bool gl] 165) = v1 at n1 H1 F1 V1 ⊢
        refine (HSp.out v1).mono ?_
        rintro e v2 ⟨rfl, n2⟩
        have A2 := Below.step n1 n2 (Nat.le_refl _)
        have F2 := hid_keep F1 n2
        have R2 := hid_keep H1 n2
        clear f0 f1 f2 f3 vc
        obtain ⟨⟨f0, f1, f2, f3⟩, _, _, _, _⟩ := four_cells F2.out
        obtain ⟨⟨r0, r1, r2, r3⟩, _, _, _, _⟩ := four_cells R2.out
        go_wp2_with fail
        go_ret
        exact ⟨ret_bool (by simp), A2⟩
    · cases sb <;> cases gl
      all_goals
        go_enter Try.func147, Try.ntmps147
        go_wp2_with fail
        generalize hv1 : w.alloc _ = v1 at n1 H1 F1 V1 ⊢
        refine (HSp.out v1).mono ?_
        rintro e v2 ⟨rfl, n2⟩
        have A2 := Below.step n1 n2 (Nat.le_refl _)
        have F2 := hid_keep F1 n2
        have R2 := hid_keep H1 n2
        clear f0 f1 f2 f3 vc
        obtain ⟨⟨f0, f1, f2, f3⟩, _, _, _, _⟩ := four_cells F2.out
        obtain ⟨⟨r0, r1, r2, r3⟩, _, _, _, _⟩ := four_cells R2.out
        go_wp2_with fail
        go_ret
        exact ⟨ret_bool (by simp), A2⟩

/-- What coverageOf answers. -/
def CovAns (base : Nat) (w : World) (e : Ending) (f : FenceM) : Prop :=
  (f.hasVa = true ∧ canonM f.va = false ∧ e = .returned (.func (.func 146) #[] #[])) ∨
  ((f.hasVa = false ∨ canonM f.va = true) ∧ ∃ pf pv, e = .returned (.func (.func 147) #[] #[.pointer (some ⟨pf, 0, none⟩), .pointer (some ⟨pv, 0, none⟩)]) ∧ base ≤ pf ∧ base ≤ pv ∧
    w.heap[pf]? = some (.cells #[.bool f.hasVa, .int .u64 f.va, .bool f.hasAsid, .int .u64 f.asid] 82 (0, 0)) ∧ w.heap[pv]? = some (.cells #[.int .u64 f.va] 94 (0, 0)))

theorem coverageOf_any (hv : Bool) (fva : Int) (ha : Bool) (fa : Int) (w : World) (hv0 : 0 ≤ fva) (hv1 : fva ≤ 18446744073709551615) :
    Calls Try.prog 111 #[.agg #[.bool hv, .int .u64 fva, .bool ha, .int .u64 fa]] w fun e w' => CovAns w.heap.size w' e ⟨hv, fva, ha, fa⟩ ∧ Below w.heap.size w w' := by
  have n1 := ((Below.refl w.heap.size w).alloc (Nat.le_refl _) (Obj.cells #[.bool hv, .int .u64 fva, .bool ha, .int .u64 fa] 82)).alloc (by simp) (Obj.cells #[.int .u64 fva] 94)
  have H1 : Hid (((w.alloc (Obj.cells #[.bool hv, .int .u64 fva, .bool ha, .int .u64 fa] 82)).alloc (Obj.cells #[.int .u64 fva] 94)).heap[w.heap.size]? = some (.cells #[.bool hv, .int .u64 fva, .bool ha, .int .u64 fa] 82 (0, 0))) := by
    show _ = _
    rw [heap_alloc_old _ _ (by simp)]
    exact heap_alloc_new w _
  have H2 : Hid (((w.alloc (Obj.cells #[.bool hv, .int .u64 fva, .bool ha, .int .u64 fa] 82)).alloc (Obj.cells #[.int .u64 fva] 94)).heap[w.heap.size + 1]? = some (.cells #[.int .u64 fva] 94 (0, 0))) := by
    have := heap_alloc_new (w.alloc (Obj.cells #[.bool hv, .int .u64 fva, .bool ha, .int .u64 fa] 82)) (Obj.cells #[.int .u64 fva] 94)
    simp only [World.size_alloc] at this
    exact this
  obtain ⟨cb, hcb⟩ : ∃ cb, canonM fva = cb := ⟨_, rfl⟩
  have HCan : Hid (∀ u : World, Calls Try.prog 73 #[.int .u64 fva] u fun e w' => e = .returned (.bool cb) ∧ w' = u) := fun u => by
    have := canonical_at fva u hv0 hv1
    rw [hcb] at this
    exact this
  have HCb : Hid (canonM fva = cb) := hcb
  clear hcb
  cases hv
  · go_enter Try.func111, Try.ntmps111
    go_wp2_with fail
    go_ret
    exact ⟨.inr ⟨.inl rfl, _, _, rfl, Nat.le_refl _, by omega, H1.out, H2.out⟩, n1⟩
  · cases cb
    · go_enter Try.func111, Try.ntmps111
      go_wp2_with (go_at_call 73; refine (HCan.out _).mono ?_; rintro e w' ⟨rfl, rfl⟩)
      go_ret
      exact ⟨.inl ⟨rfl, HCb.out, rfl⟩, n1⟩
    · go_enter Try.func111, Try.ntmps111
      go_wp2_with (go_at_call 73; refine (HCan.out _).mono ?_; rintro e w' ⟨rfl, rfl⟩)
      go_ret
      exact ⟨.inr ⟨.inr HCb.out, _, _, rfl, Nat.le_refl _, by omega, H1.out, H2.out⟩, n1⟩

end Go.Proofs.Ythekickjjaleaab

/- The program's flush, for one kind of cache and both kinds of function values. Written by mk4.py. -/
namespace Go.Proofs.Ythekickjjaleaab
open Go.RowKit
set_option linter.unusedVariables false
attribute [local go_sem ↓] Go.wp_at_zero Go.wp_at_succ

set_option maxRecDepth 20000 in
set_option maxHeartbeats 3200000 in
theorem flushBL_any (hv : Bool) (fva : Int) (ha : Bool) (fa : Int) (pf pv b o g n base : Nat) (es : List EntM) (sets ways : Int) (w : World) (hn : es.length = n) (hn1 : n ≤ 1048576) (hbl : b < w.heap.size) (hbg : b ≠ g) (hv0 : 0 ≤ fva) (hv1 : fva ≤ 18446744073709551615) (hcan : hv = false ∨ canonM fva = true) (hpf : pf ≠ g) (hpv : pv ≠ g) (hF : w.heap[pf]? = some (.cells #[.bool hv, .int .u64 fva, .bool ha, .int .u64 fa] 82 (0, 0))) (hV : w.heap[pv]? = some (.cells #[.int .u64 fva] 94 (0, 0)))
    (c2 : w.cell? ⟨b, o + 2, none⟩ = some (.slice (some ⟨g, 0, none⟩) n n)) (ho : w.ownsRow base 172 6 (.slice (some ⟨g, 0, none⟩) n n) n (slotsC es)) (hlv : ∀ (j : Nat) (x : EntM), es[j]? = some x → x.valid = true → 0 ≤ x.level ∧ x.level ≤ 2) :
    Calls Try.prog 149 #[.pointer (some ⟨b, o, none⟩), .func (.func 147) #[] #[.pointer (some ⟨pf, 0, none⟩), .pointer (some ⟨pv, 0, none⟩)]] w fun x w' => x = .returned (.tuple #[]) ∧ w'.ownsRow base 172 6 (.slice (some ⟨g, 0, none⟩) n n) n (slotsC (es.map (struckM ⟨hv, fva, ha, fa⟩))) ∧ w.grownBy w' (some g) := by
  have HO : Hid (w.ownsRow base 172 6 (.slice (some ⟨g, 0, none⟩) n n) n (slotsC es)) := ho
  have HN : Hid (es.length = n) := hn
  have HLv : Hid (∀ (j : Nat) (x : EntM), es[j]? = some x → x.valid = true → 0 ≤ x.level ∧ x.level ≤ 2) := hlv
  have hg := (own_at ho).2.2
  simp only at hg
  clear ho hn hlv
  go_enter Try.func149, Try.ntmps149
  go_wp2_with fail
  go_loopw [11] (fun i wr => ∃ k : Nat, k ≤ n ∧ i = .int .i64 k ∧ w.grownBy wr (some g) ∧ wr.ownsRow base 172 6 (.slice (some ⟨g, 0, none⟩) n n) n (slotsC (struckN ⟨hv, fva, ha, fa⟩ k es))) (fun i _ => n - (intOf i).toNat)
  case atStart => exact ⟨0, Nat.zero_le _, rfl, gb_refl _ _, by rw [show struckN ⟨hv, fva, ha, fa⟩ 0 es = es by simp [struckN]]; exact HO.out⟩
  case round =>
    obtain ⟨k, hk, rfl, hgb, hO⟩ := hrel
    have PO : Hid (wr.ownsRow base 172 6 (.slice (some ⟨g, 0, none⟩) n n) n (slotsC (struckN ⟨hv, fva, ha, fa⟩ k es))) := hO
    have lr : w.heap.size ≤ wr.heap.size := hgb.size
    have hfl : (slotsC (struckN ⟨hv, fva, ha, fa⟩ k es)).length = n * 6 := hO.1
    clear hO
    have r2 : wr.cell? ⟨b, o + 2, none⟩ = some (.slice (some ⟨g, 0, none⟩) n n) := gb_cell hgb c2 hbl hbg
    by_cases hlt : k < n
    · obtain ⟨⟨vv, lv, tg, asd, gl, pt⟩, hx⟩ : ∃ x, es[k]? = some x := ⟨_, List.getElem?_eq_getElem (by rw [HN.out]; exact hlt)⟩
      have hx' : (struckN ⟨hv, fva, ha, fa⟩ k es)[k]? = some ⟨vv, lv, tg, asd, gl, pt⟩ := by
        first
          | exact hx
          | (unfold struckN
             have hkl : k ≤ es.length := by rw [HN.out]; omega
             rw [List.getElem?_append_right (by simp; omega), List.length_map, List.length_take, Nat.min_eq_left hkl, Nat.sub_self, List.getElem?_drop, Nat.add_zero, hx])
      have HXk : Hid (es[k]? = some ⟨vv, lv, tg, asd, gl, pt⟩) := hx
      have CE : ∀ j u, j < 6 → (slotC ⟨vv, lv, tg, asd, gl, pt⟩)[j]? = some u → wr.cell? ⟨g, k * 6 + j, none⟩ = some u := fun j u hj hu => slot_cell PO.out (by have := hfl; rw [slotsC_len] at this; omega) k _ hx' j u hj hu
      have g0 : wr.cell? ⟨g, k * 6, none⟩ = some (.int .i64 lv) := CE 0 _ (by omega) rfl
      have g1 : wr.cell? ⟨g, k * 6 + 1, none⟩ = some (.int .u64 tg) := CE 1 _ (by omega) rfl
      have g2 : wr.cell? ⟨g, k * 6 + 2, none⟩ = some (.int .u64 asd) := CE 2 _ (by omega) rfl
      have g3 : wr.cell? ⟨g, k * 6 + 3, none⟩ = some (.bool gl) := CE 3 _ (by omega) rfl
      have g4 : wr.cell? ⟨g, k * 6 + 4, none⟩ = some (.bool vv) := CE 4 _ (by omega) rfl
      have g5 : wr.cell? ⟨g, k * 6 + 5, none⟩ = some (.int .u64 pt) := CE 5 _ (by omega) rfl
      have HNx : Hid _ := struckN_next ⟨hv, fva, ha, fa⟩ k es _ hx
      have HSm : Hid ((struckN ⟨hv, fva, ha, fa⟩ k es).set k ⟨vv, lv, tg, asd, gl, pt⟩ = struckN ⟨hv, fva, ha, fa⟩ k es) := by
        show _ = _
        apply List.ext_getElem?
        intro j
        rw [List.getElem?_set]
        by_cases hj : k = j
        · subst hj
          have hkl := (List.getElem?_eq_some_iff.1 hx').1
          rw [if_pos rfl, if_pos hkl, hx']
        · rw [if_neg hj]
      have HLx : Hid (vv = true → 0 ≤ lv ∧ lv ≤ 2) := fun h => HLv.out k _ hx h
      clear CE hx hx'
      have n5 := (Below.refl wr.heap.size wr).alloc (Nat.le_refl _) (Obj.cells #[.int .i64 lv, .int .u64 tg, .int .u64 asd, .bool gl, .bool vv, .int .u64 pt] 172)
      have hgb5 := gb_below hgb n5
      cases vv
      · have hst : struckM ⟨hv, fva, ha, fa⟩ ⟨false, lv, tg, asd, gl, pt⟩ = ⟨false, lv, tg, asd, gl, pt⟩ := by simp [struckM]
        go_wp2_with fail
        go_roundw
        case rel => exact ⟨k + 1, by omega, by go_num, hgb5, by rw [HNx.out, hst, HSm.out]; exact own_below PO.out n5⟩
        case measure => simp [intOf]; omega
      · obtain ⟨hl0, hl2⟩ := HLx.out rfl
        obtain ⟨cb, hcb⟩ : ∃ cb, coversM ⟨hv, fva, ha, fa⟩ lv tg asd gl = cb := ⟨_, rfl⟩
        have hst : struckM ⟨hv, fva, ha, fa⟩ ⟨true, lv, tg, asd, gl, pt⟩ = if cb = true then ent0 else ⟨true, lv, tg, asd, gl, pt⟩ := by simp [struckM, hcb]
        have HSt : Hid _ := hst
        have HCv : Hid (∀ u : World, u.heap[pf]? = some (.cells #[.bool hv, .int .u64 fva, .bool ha, .int .u64 fa] 82 (0, 0)) → u.heap[pv]? = some (.cells #[.int .u64 fva] 94 (0, 0)) → Calls Try.prog 147 #[.agg #[.int .i64 lv, .int .u64 tg, .int .u64 asd, .bool gl], .pointer (some ⟨pf, 0, none⟩), .pointer (some ⟨pv, 0, none⟩)] u fun e w' => e = .returned (.bool cb) ∧ Below u.heap.size u w') := fun u h1 h2 => by
          have := cover2_any hv fva ha fa lv tg asd gl pf pv u (by omega) hv0 hv1 h1 h2
          rw [covB_covers _ _ _ _ _ hcan, hcb] at this
          exact this
        have F5 := heap_gb hF hgb5 hpf
        have V5 := heap_gb hV hgb5 hpv
        clear hcb hst
        go_wp2_with fail
        generalize wr.alloc (Obj.cells #[.int .i64 lv, .int .u64 tg, .int .u64 asd, .bool gl, .bool true, .int .u64 pt] 172) = v5 at n5 hgb5 F5 V5 ⊢
        refine (HCv.out v5 F5 V5).mono ?_
        rintro e v6 ⟨rfl, n6⟩
        have n56 := Below.step n5 n6 (Nat.le_refl _)
        have hgb6 := gb_below hgb n56
        have SO : Hid (v6.ownsRow base 172 6 (.slice (some ⟨g, 0, none⟩) n n) n (slotsC (struckN ⟨hv, fva, ha, fa⟩ k es))) := own_below PO.out n56
        clear g0 g1 g2 g3 g4 g5 r2 F5 V5 n5 n6 hgb5 hgb
        have r2 : v6.cell? ⟨b, o + 2, none⟩ = some (.slice (some ⟨g, 0, none⟩) n n) := gb_cell hgb6 c2 hbl hbg
        cases cb
        · go_wp2_with fail
          go_roundw
          case rel => exact ⟨k + 1, by omega, by go_num, hgb6, by rw [HNx.out, HSt.out]; simp only [Bool.false_eq_true, if_false]; rw [HSm.out]; exact SO.out⟩
          case measure => simp [intOf]; omega
        ·
          have q0 := own_cell SO.out (k * 6) _ (List.getElem?_eq_getElem (by omega))
          have q1 := own_cell SO.out (k * 6 + 1) _ (List.getElem?_eq_getElem (by omega))
          have q2 := own_cell SO.out (k * 6 + 2) _ (List.getElem?_eq_getElem (by omega))
          have q3 := own_cell SO.out (k * 6 + 3) _ (List.getElem?_eq_getElem (by omega))
          have q4 := own_cell SO.out (k * 6 + 4) _ (List.getElem?_eq_getElem (by omega))
          have q5 := own_cell SO.out (k * 6 + 5) _ (List.getElem?_eq_getElem (by omega))
          generalize (slotsC (struckN ⟨hv, fva, ha, fa⟩ k es))[k * 6]'_ = y0 at q0
          generalize (slotsC (struckN ⟨hv, fva, ha, fa⟩ k es))[k * 6 + 1]'_ = y1 at q1
          generalize (slotsC (struckN ⟨hv, fva, ha, fa⟩ k es))[k * 6 + 2]'_ = y2 at q2
          generalize (slotsC (struckN ⟨hv, fva, ha, fa⟩ k es))[k * 6 + 3]'_ = y3 at q3
          generalize (slotsC (struckN ⟨hv, fva, ha, fa⟩ k es))[k * 6 + 4]'_ = y4 at q4
          generalize (slotsC (struckN ⟨hv, fva, ha, fa⟩ k es))[k * 6 + 5]'_ = y5 at q5
          have s0 := own_free SO.out (k * 6)
          have s1 := own_free SO.out (k * 6 + 1)
          have s2 := own_free SO.out (k * 6 + 2)
          have s3 := own_free SO.out (k * 6 + 3)
          have s4 := own_free SO.out (k * 6 + 4)
          have s5 := own_free SO.out (k * 6 + 5)
          go_wp2_with fail
          go_roundw
          case rel =>
            refine ⟨k + 1, by omega, by go_num, gb_set (gb_set (gb_set (gb_set (gb_set (gb_set hgb6 _ _) _ _) _ _) _ _) _ _) _ _, ?_⟩
            rw [HNx.out, HSt.out, if_pos (by trivial), slotsC_set _ _ _ (by rw [struckN_len, HN.out]; exact hlt)]
            exact own_store (own_store (own_store (own_store (own_store (own_store SO.out _ _) _ _) _ _) _ _) _ _) _ _
          case measure => simp [intOf]; omega
    · have hkn : k = n := by omega
      subst hkn
      go_wp2_with fail
      go_end0
      refine ⟨rfl, ?_, hgb⟩
      have hO := PO.out
      have hsn : struckN ⟨hv, fva, ha, fa⟩ k es = es.map (struckM ⟨hv, fva, ha, fa⟩) := by
        have hq : es.length = k := HN.out
        unfold struckN
        rw [← hq, List.take_length, List.drop_length, List.append_nil]
      rw [hsn] at hO
      exact hO

set_option maxRecDepth 20000 in
set_option maxHeartbeats 3200000 in
theorem flushAL_any (hv : Bool) (fva : Int) (ha : Bool) (fa : Int) (pf pv b o g n base : Nat) (es : List EntM) (sets ways : Int) (w : World) (hn : es.length = n) (hn1 : n ≤ 1048576) (hbl : b < w.heap.size) (hbg : b ≠ g) 
    (c2 : w.cell? ⟨b, o + 2, none⟩ = some (.slice (some ⟨g, 0, none⟩) n n)) (ho : w.ownsRow base 172 6 (.slice (some ⟨g, 0, none⟩) n n) n (slotsC es)) (hlv : ∀ (j : Nat) (x : EntM), es[j]? = some x → x.valid = true → 0 ≤ x.level ∧ x.level ≤ 2) :
    Calls Try.prog 149 #[.pointer (some ⟨b, o, none⟩), .func (.func 146) #[] #[]] w fun x w' => x = .returned (.tuple #[]) ∧ w'.ownsRow base 172 6 (.slice (some ⟨g, 0, none⟩) n n) n (slotsC (es)) ∧ w.grownBy w' (some g) := by
  have HO : Hid (w.ownsRow base 172 6 (.slice (some ⟨g, 0, none⟩) n n) n (slotsC es)) := ho
  have HN : Hid (es.length = n) := hn
  have HLv : Hid (∀ (j : Nat) (x : EntM), es[j]? = some x → x.valid = true → 0 ≤ x.level ∧ x.level ≤ 2) := hlv
  have hg := (own_at ho).2.2
  simp only at hg
  clear ho hn hlv
  go_enter Try.func149, Try.ntmps149
  go_wp2_with fail
  go_loopw [11] (fun i wr => ∃ k : Nat, k ≤ n ∧ i = .int .i64 k ∧ w.grownBy wr (some g) ∧ wr.ownsRow base 172 6 (.slice (some ⟨g, 0, none⟩) n n) n (slotsC (es))) (fun i _ => n - (intOf i).toNat)
  case atStart => exact ⟨0, Nat.zero_le _, rfl, gb_refl _ _, HO.out⟩
  case round =>
    obtain ⟨k, hk, rfl, hgb, hO⟩ := hrel
    have PO : Hid (wr.ownsRow base 172 6 (.slice (some ⟨g, 0, none⟩) n n) n (slotsC (es))) := hO
    have lr : w.heap.size ≤ wr.heap.size := hgb.size
    have hfl : (slotsC (es)).length = n * 6 := hO.1
    clear hO
    have r2 : wr.cell? ⟨b, o + 2, none⟩ = some (.slice (some ⟨g, 0, none⟩) n n) := gb_cell hgb c2 hbl hbg
    by_cases hlt : k < n
    · obtain ⟨⟨vv, lv, tg, asd, gl, pt⟩, hx⟩ : ∃ x, es[k]? = some x := ⟨_, List.getElem?_eq_getElem (by rw [HN.out]; exact hlt)⟩
      have hx' : (es)[k]? = some ⟨vv, lv, tg, asd, gl, pt⟩ := by
        first
          | exact hx
          | (unfold struckN
             have hkl : k ≤ es.length := by rw [HN.out]; omega
             rw [List.getElem?_append_right (by simp; omega), List.length_map, List.length_take, Nat.min_eq_left hkl, Nat.sub_self, List.getElem?_drop, Nat.add_zero, hx])
      have HXk : Hid (es[k]? = some ⟨vv, lv, tg, asd, gl, pt⟩) := hx
      have CE : ∀ j u, j < 6 → (slotC ⟨vv, lv, tg, asd, gl, pt⟩)[j]? = some u → wr.cell? ⟨g, k * 6 + j, none⟩ = some u := fun j u hj hu => slot_cell PO.out (by have := hfl; rw [slotsC_len] at this; omega) k _ hx' j u hj hu
      have g0 : wr.cell? ⟨g, k * 6, none⟩ = some (.int .i64 lv) := CE 0 _ (by omega) rfl
      have g1 : wr.cell? ⟨g, k * 6 + 1, none⟩ = some (.int .u64 tg) := CE 1 _ (by omega) rfl
      have g2 : wr.cell? ⟨g, k * 6 + 2, none⟩ = some (.int .u64 asd) := CE 2 _ (by omega) rfl
      have g3 : wr.cell? ⟨g, k * 6 + 3, none⟩ = some (.bool gl) := CE 3 _ (by omega) rfl
      have g4 : wr.cell? ⟨g, k * 6 + 4, none⟩ = some (.bool vv) := CE 4 _ (by omega) rfl
      have g5 : wr.cell? ⟨g, k * 6 + 5, none⟩ = some (.int .u64 pt) := CE 5 _ (by omega) rfl
      have HSm : Hid ((es).set k ⟨vv, lv, tg, asd, gl, pt⟩ = es) := by
        show _ = _
        apply List.ext_getElem?
        intro j
        rw [List.getElem?_set]
        by_cases hj : k = j
        · subst hj
          have hkl := (List.getElem?_eq_some_iff.1 hx').1
          rw [if_pos rfl, if_pos hkl, hx']
        · rw [if_neg hj]
      have HLx : Hid (vv = true → 0 ≤ lv ∧ lv ≤ 2) := fun h => HLv.out k _ hx h
      clear CE hx hx'
      have n5 := (Below.refl wr.heap.size wr).alloc (Nat.le_refl _) (Obj.cells #[.int .i64 lv, .int .u64 tg, .int .u64 asd, .bool gl, .bool vv, .int .u64 pt] 172)
      have hgb5 := gb_below hgb n5
      cases vv
      · go_wp2_with fail
        go_roundw
        case rel => exact ⟨k + 1, by omega, by go_num, hgb5, own_below PO.out n5⟩
        case measure => simp [intOf]; omega
      · go_wp2_with fail
        generalize wr.alloc (Obj.cells #[.int .i64 lv, .int .u64 tg, .int .u64 asd, .bool gl, .bool true, .int .u64 pt] 172) = v5 at n5 hgb5 ⊢
        refine (cover1_any lv tg asd gl v5).mono ?_
        rintro e v6 ⟨rfl, n6⟩
        have n56 := Below.step n5 n6 (Nat.le_refl _)
        have hgb6 := gb_below hgb n56
        go_wp2_with fail
        go_roundw
        case rel => exact ⟨k + 1, by omega, by go_num, hgb6, own_below PO.out n56⟩
        case measure => simp [intOf]; omega
    · have hkn : k = n := by omega
      subst hkn
      go_wp2_with fail
      go_end0
      refine ⟨rfl, ?_, hgb⟩
      have hO := PO.out
      exact hO

end Go.Proofs.Ythekickjjaleaab
