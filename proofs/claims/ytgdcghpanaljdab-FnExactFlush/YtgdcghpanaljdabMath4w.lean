/- Plain mathematics of chapter 4: where the entry that is found stands. -/
import Derived.Test.YtgdcghpanaljdabMath4t
namespace Go.Proofs.Ytgdcghpanaljdab
set_option linter.unusedVariables false

theorem tagM_lim (va l : Int) (hl : l = 0 ∨ l = 1 ∨ l = 2) : 0 ≤ tagM va l ∧ tagM va l ≤ 511 := by
  rcases hl with rfl | rfl | rfl <;> simp only [tagM] <;> (try simp) <;> omega

/-- An entry that fits at a level stands in the set of the address's tag. -/
theorem hit_set {t : TlbM} {p : Bool} {va asid l : Int} {q : Nat} {x : EntM} (hv : validM t p = true) (hx : t.es[q]? = some x) (hh : hitB va asid l x = true) : (q : Int) / t.ways = tagM va l % t.sets := by
  have hp := place_of hv q x hx
  simp only [hitB, fitsM, Bool.and_eq_true, beq_iff_eq] at hh
  obtain ⟨h1, ⟨h2, h3⟩, _⟩ := hh
  simp only [placeM, Bool.or_eq_true, Bool.and_eq_true, beq_iff_eq] at hp
  rcases hp with hp | hp
  · rw [h2] at hp; simp at hp
  · rw [← hp.2, h3, h1]

theorem shape_at {t : TlbM} {p : Bool} (hv : validM t p = true) : (t.sets = 1 ∨ t.sets = 2 ∨ t.sets = 4 ∨ t.sets = 8) ∧ 1 ≤ t.ways ∧ t.ways ≤ 4 ∧ (t.es.length : Int) = t.sets * t.ways := shape_of hv

/-- Outside of the set nothing is found. -/
theorem hit_out {t : TlbM} {p : Bool} {va asid l : Int} {q f : Nat} {x : EntM} (hv : validM t p = true) (hx : t.es[q]? = some x) (hf : (f : Int) = tagM va l % t.sets * t.ways) (hq : q < f ∨ (f : Int) + t.ways ≤ q) : hitB va asid l x = false := by
  cases hh : hitB va asid l x
  · rfl
  · exfalso
    have h1 := hit_set hv hx hh
    obtain ⟨_, w1, w4, _⟩ := shape_at hv
    rw [← h1] at hf
    rcases (show t.ways = 1 ∨ t.ways = 2 ∨ t.ways = 3 ∨ t.ways = 4 by omega) with hw | hw | hw | hw <;> rw [hw] at hf hq <;> omega

/-- The end of the search in one set. -/
theorem find_none {t : TlbM} {p : Bool} {va asid l : Int} {f : Nat} (hv : validM t p = true) (hf : (f : Int) = tagM va l % t.sets * t.ways)
    (h : ∀ (j : Nat) x, (j : Int) < t.ways → t.es[f + j]? = some x → hitB va asid l x = false) : findL va asid l 0 t.es = none := by
  refine findL_none va asid l t.es 0 (fun j x hx => ?_)
  by_cases h1 : j < f
  · exact hit_out hv hx hf (.inl h1)
  · by_cases h2 : (f : Int) + t.ways ≤ j
    · exact hit_out hv hx hf (.inr h2)
    · exact h (j - f) x (by omega) (by rw [show f + (j - f) = j by omega]; exact hx)

theorem find_some {t : TlbM} {p : Bool} {va asid l : Int} {f k : Nat} {x : EntM} (hv : validM t p = true) (hf : (f : Int) = tagM va l % t.sets * t.ways) (hx : t.es[f + k]? = some x) (hh : hitB va asid l x = true)
    (h : ∀ (j : Nat) y, j < k → t.es[f + j]? = some y → hitB va asid l y = false) : findL va asid l 0 t.es = some (f + k, x) := by
  have := findL_some va asid l t.es 0 (f + k) x hx hh (fun j y hj hy => by
    by_cases h1 : j < f
    · exact hit_out hv hy hf (.inl h1)
    · exact h (j - f) y (by omega) (by rw [show f + (j - f) = j by omega]; exact hy))
  rw [Nat.zero_add] at this
  exact this

theorem findL_get (va asid l : Int) : ∀ (es : List EntM) (i k : Nat) (x : EntM), findL va asid l i es = some (k, x) → ∃ j, k = i + j ∧ es[j]? = some x ∧ hitB va asid l x = true
  | [], i, k, x, h => by cases h
  | e :: r, i, k, x, h => by
    rw [findL] at h
    split at h
    · rename_i hh
      cases h
      exact ⟨0, rfl, rfl, hh⟩
    · obtain ⟨j, rfl, h2, h3⟩ := findL_get va asid l r (i + 1) k x h
      exact ⟨j + 1, by omega, by simpa using h2, h3⟩

/-- What is found is an entry of the cache. -/
theorem hit_get (t : TlbM) (va asid : Int) (h : (hitM t va asid).1 = true) : ∃ (k : Nat) (x : EntM), t.es[k]? = some x ∧ (hitM t va asid).2.1 = (k : Int) ∧ (hitM t va asid).2.2.1 = x.level ∧ (hitM t va asid).2.2.2 = x.pte ∧ fitsM x va asid = true ∧ x.valid = true := by
  have key : ∀ (l : Int) (k : Nat) (x : EntM), findL va asid l 0 t.es = some (k, x) → t.es[k]? = some x ∧ l = x.level ∧ fitsM x va asid = true ∧ x.valid = true := by
    intro l k x hf
    obtain ⟨j, rfl, h2, h3⟩ := findL_get va asid l t.es 0 k x hf
    simp only [hitB, Bool.and_eq_true, beq_iff_eq] at h3
    have hv : x.valid = true := by
      have := h3.2
      simp only [fitsM, Bool.and_eq_true] at this
      exact this.1.1
    exact ⟨by rw [Nat.zero_add]; exact h2, h3.1.symm, h3.2, hv⟩
  unfold hitM at h ⊢
  split at h
  · cases h
  · rename_i he
    rw [if_neg he]
    cases h0 : findL va asid 0 0 t.es with
    | some y =>
      obtain ⟨k, x⟩ := y
      obtain ⟨a1, a2, a3, a4⟩ := key 0 k x h0
      exact ⟨k, x, a1, by simp [hitOf], by simp [hitOf, ← a2], by simp [hitOf], a3, a4⟩
    | none =>
      cases h1 : findL va asid 1 0 t.es with
      | some y =>
        obtain ⟨k, x⟩ := y
        obtain ⟨a1, a2, a3, a4⟩ := key 1 k x h1
        exact ⟨k, x, a1, by simp [hitOf], by simp [hitOf, ← a2], by simp [hitOf], a3, a4⟩
      | none =>
        cases h2 : findL va asid 2 0 t.es with
        | some y =>
          obtain ⟨k, x⟩ := y
          obtain ⟨a1, a2, a3, a4⟩ := key 2 k x h2
          exact ⟨k, x, a1, by simp [hitOf], by simp [hitOf, ← a2], by simp [hitOf], a3, a4⟩
        | none =>
          rw [h0, h1, h2] at h
          simp [hitOf] at h

theorem hit_zero {t : TlbM} {va asid i l pt : Int} (h : hitM t va asid = (false, i, l, pt)) : (i, l, pt) = (0, 0, 0) := by
  unfold hitM at h
  split at h
  · cases h; rfl
  · cases h0 : findL va asid 0 0 t.es with
    | some y => simp [h0, hitOf] at h
    | none =>
      cases h1 : findL va asid 1 0 t.es with
      | some y => simp [h0, h1, hitOf] at h
      | none =>
        cases h2 : findL va asid 2 0 t.es with
        | some y => simp [h0, h1, h2, hitOf] at h
        | none =>
          simp [h0, h1, h2, hitOf] at h
          obtain ⟨rfl, rfl, rfl⟩ := h
          rfl

end Go.Proofs.Ytgdcghpanaljdab
