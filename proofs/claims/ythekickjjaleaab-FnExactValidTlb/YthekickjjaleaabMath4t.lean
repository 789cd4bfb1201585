/- Plain mathematics of chapter 4: insertion, flushing and the translation with caches, and what they keep. -/
import Derived.Test.YthekickjjaleaabSpec4k
import Derived.Test.YthekickjjaleaabMath4b
namespace Go.Proofs.Ythekickjjaleaab
set_option linter.unusedVariables false

structure KM where
  i : TlbM
  d : TlbM
  p : TlbM

def tlb0 : TlbM := ⟨0, 0, []⟩
def k0M : KM := ⟨tlb0, tlb0, tlb0⟩
def goodKM (k : KM) : Bool := validM k.i false && validM k.d false && validM k.p true
def entM (level va satp pte : Int) : EntM := ⟨true, level, tagM va level, asidM satp, bitB pte 32, pte⟩

def flushM (t : TlbM) (f : FenceM) : TlbM := if eitherM t = true then ⟨t.sets, t.ways, t.es.map (struckM f)⟩ else t

def fitsInM (t : TlbM) (e : EntM) : Bool := (validM t true && goodEntM e true) || (validM t false && goodEntM e false)
def firstM (t : TlbM) (e : EntM) : Nat := (e.tag % t.sets * t.ways).toNat
def wayM (t : TlbM) (e : EntM) (pick : Int) : Nat := (freeM t.es (firstM t e) 0 t.ways.toNat).getD (pick % t.ways).toNat
def insertM (t : TlbM) (e : EntM) (pick : Int) : TlbM :=
  if fitsInM t e = true ∧ 0 ≤ pick ∧ pick ≤ 255 then ⟨t.sets, t.ways, t.es.set (firstM t e + wayM t e pick) e⟩ else t

def ptrsM (va satp pick : Int) : List RecM → TlbM → TlbM
  | [], p => p
  | r :: rs, p => ptrsM va satp pick rs (if kindM r.2.2 r.1 = 1 then insertM p (entM r.1 va satp r.2.2) pick else p)

/-- The walk of a translation that found no leaf: from a kept pointer or from the root. -/
def resumeM (zs : List Int) (satp va : Int) (up : Bool × Int × Int × Int) : Int × Int × Int × List RecM :=
  if up.1 = true then fromM zs va (up.2.2.1 - 1).toNat (ppnM up.2.2.2) else walkM zs satp va

def putM (k : KM) (kind : Int) (t : TlbM) : KM := if kind = 0 then ⟨t, k.d, k.p⟩ else ⟨k.i, t, k.p⟩
def pickM (k : KM) (kind : Int) : TlbM := if kind = 0 then k.i else k.d

def tlbTransM (zs : List Int) (mode : Int) (sum mxr : Bool) (satp : Int) (k : KM) (kind va pick : Int) : (Int × Int) × KM :=
  if goodKM k = false ∨ kind < 0 ∨ 2 < kind ∨ mode < 0 ∨ 2 < mode ∨ pick < 0 ∨ 255 < pick then ((63, 0), k0M)
  else if onM mode satp = false then ((0, va), k)
  else if canonM va = false then ((pageM kind, 0), k)
  else if (hitM (pickM k kind) va (asidM satp)).1 = true then (leafM (hitM (pickM k kind) va (asidM satp)).2.2.2 (hitM (pickM k kind) va (asidM satp)).2.2.1 mode sum mxr kind va, k)
  else
    let r := resumeM zs satp va (hitM k.p va (asidM satp))
    let a := answerM r mode sum mxr kind va
    let k' : KM := ⟨k.i, k.d, ptrsM va satp pick r.2.2.2 k.p⟩
    (a, if a.1 = 0 then putM k' kind (insertM (pickM k kind) (entM r.2.1 va satp r.2.2.1) pick) else k')

theorem shape_of {t : TlbM} {p : Bool} (h : validM t p = true) : (t.sets = 1 ∨ t.sets = 2 ∨ t.sets = 4 ∨ t.sets = 8) ∧ 1 ≤ t.ways ∧ t.ways ≤ 4 ∧ (t.es.length : Int) = t.sets * t.ways := by
  simp only [validM, Bool.and_eq_true, shapeM, decide_eq_true_eq] at h
  exact h.1

theorem place_of {t : TlbM} {p : Bool} (h : validM t p = true) (j : Nat) (x : EntM) (hx : t.es[j]? = some x) : placeM t p j x = true := by
  simp only [validM, Bool.and_eq_true] at h
  have := places_at t p t.es 0 h.2 j x hx
  simpa using this

theorem valid_of {t : TlbM} {p : Bool} (h : shapeM t = true) (hp : ∀ (j : Nat) x, t.es[j]? = some x → placeM t p j x = true) : validM t p = true := by
  simp only [validM, Bool.and_eq_true]
  exact ⟨h, placesM_true t p t.es 0 (fun j x hx => by simpa using hp j x hx)⟩

theorem either_of {t : TlbM} {p : Bool} (h : validM t p = true) : eitherM t = true := by
  cases p <;> simp [eitherM, h]

theorem freeM_lt (es : List EntM) (first : Nat) : ∀ (left w r : Nat), freeM es first w left = some r → w ≤ r ∧ r < w + left
  | 0, w, r, h => by simp [freeM] at h
  | left + 1, w, r, h => by
    rw [freeM] at h
    split at h
    · cases h; omega
    · have := freeM_lt es first left (w + 1) r h
      omega

theorem wayM_lt (t : TlbM) (e : EntM) (pick : Int) (hw : 1 ≤ t.ways) (hw' : t.ways ≤ 4) : (wayM t e pick : Int) < t.ways := by
  unfold wayM
  cases h : freeM t.es (firstM t e) 0 t.ways.toNat with
  | none =>
    simp only [Option.getD_none]
    have h1 : 0 ≤ pick % t.ways := Int.emod_nonneg _ (by omega)
    have h2 : pick % t.ways < t.ways := Int.emod_lt_of_pos _ (by omega)
    omega
  | some r =>
    simp only [Option.getD_some]
    have := freeM_lt _ _ _ _ _ h
    omega

theorem first_at {t : TlbM} {e : EntM} (ht : 0 ≤ e.tag) (hs : t.sets = 1 ∨ t.sets = 2 ∨ t.sets = 4 ∨ t.sets = 8) (hw : 1 ≤ t.ways) : (firstM t e : Int) = e.tag % t.sets * t.ways := by
  unfold firstM
  have : 0 ≤ e.tag % t.sets := Int.emod_nonneg _ (by omega)
  have := Int.mul_nonneg this (by omega : 0 ≤ t.ways)
  omega

theorem idx_lt {t : TlbM} {p : Bool} {e : EntM} {pick : Int} (hv : validM t p = true) (ht : 0 ≤ e.tag) : firstM t e + wayM t e pick < t.es.length := by
  obtain ⟨hs, hw, hw', hl⟩ := shape_of hv
  have h1 := first_at (e := e) ht hs hw
  have h2 := wayM_lt t e pick hw hw'
  have h3 : e.tag % t.sets < t.sets := Int.emod_lt_of_pos _ (by omega)
  have h4 : 0 ≤ e.tag % t.sets := Int.emod_nonneg _ (by omega)
  have h5 : (e.tag % t.sets + 1) * t.ways ≤ t.sets * t.ways := Int.mul_le_mul_of_nonneg_right (by omega) (by omega)
  rw [Int.add_mul] at h5
  omega

theorem idx_set {t : TlbM} {p : Bool} {e : EntM} {pick : Int} (hv : validM t p = true) (ht : 0 ≤ e.tag) : ((firstM t e + wayM t e pick : Nat) : Int) / t.ways = e.tag % t.sets := by
  obtain ⟨hs, hw, hw', hl⟩ := shape_of hv
  have h1 := first_at (e := e) ht hs hw
  have h2 := wayM_lt t e pick hw hw'
  rw [show ((firstM t e + wayM t e pick : Nat) : Int) = (wayM t e pick : Int) + (e.tag % t.sets) * t.ways by omega, Int.add_mul_ediv_right _ _ (by omega)]
  rw [Int.ediv_eq_zero_of_lt (by omega) h2]
  omega

theorem good_kind {e : EntM} {p : Bool} (h : goodEntM e p = true) : kindM e.pte e.level = wantM p := by
  simp only [goodEntM, Bool.and_eq_true, beq_iff_eq] at h
  exact h.2

theorem good_sense {e : EntM} {p q : Bool} (h : goodEntM e p = true) (h' : goodEntM e q = true) : p = q := by
  have h1 := good_kind h
  have h2 := good_kind h'
  cases p <;> cases q <;> simp [wantM] at h1 h2 <;> first | rfl | omega

/-- Insertion keeps a valid cache valid, in the sense of the entry. -/
theorem insert_valid (t : TlbM) (e : EntM) (pick : Int) (p : Bool) (hv : validM t p = true) (hg : goodEntM e p = true) (ht : 0 ≤ e.tag) : validM (insertM t e pick) p = true := by
  unfold insertM
  split
  · have hs := shape_of hv
    refine valid_of ?_ ?_
    · simp only [shapeM, decide_eq_true_eq, List.length_set]
      exact hs
    · intro j x hx
      simp only [List.getElem?_set] at hx
      split at hx
      · rename_i hj
        split at hx
        · cases hx
          subst hj
          simp only [placeM, Bool.or_eq_true, Bool.and_eq_true, beq_iff_eq]
          exact .inr ⟨hg, (idx_set (pick := pick) hv ht).symm⟩
        · cases hx
      · exact place_of hv j x hx
  · exact hv

theorem insert_same (t : TlbM) (e : EntM) (pick : Int) (p : Bool) (hg : goodEntM e p = true) (hv : validM t p = false) : insertM t e pick = t := by
  unfold insertM
  rw [if_neg]
  rintro ⟨h, _⟩
  simp only [fitsInM, Bool.or_eq_true, Bool.and_eq_true] at h
  rcases h with ⟨h1, h2⟩ | ⟨h1, h2⟩
  · have := good_sense h2 hg; subst this; rw [hv] at h1; cases h1
  · have := good_sense h2 hg; subst this; rw [hv] at h1; cases h1

theorem flush_valid (t : TlbM) (f : FenceM) (p : Bool) (hv : validM t p = true) : validM (flushM t f) p = true := by
  unfold flushM
  rw [if_pos (either_of hv)]
  have hs := shape_of hv
  refine valid_of ?_ ?_
  · simp only [shapeM, decide_eq_true_eq, List.length_map]
    exact hs
  · intro j x hx
    simp only [List.getElem?_map, Option.map_eq_some_iff] at hx
    obtain ⟨y, hy, rfl⟩ := hx
    have := place_of hv j y hy
    unfold struckM
    split
    · simp [placeM, ent0]
    · exact this

/-- Nothing is found where nothing fits. -/
theorem hit_none (t : TlbM) (va asid : Int) (h : ∀ x ∈ t.es, fitsM x va asid = false) : hitM t va asid = (false, 0, 0, 0) := by
  by_cases he : eitherM t = true
  · refine hitM_none t va asid he (fun l hl => findL_none va asid l t.es 0 (fun j x hx => ?_))
    simp [hitB, h x (List.mem_of_getElem? hx)]
  · unfold hitM
    rw [if_pos (by simpa using he)]

/-- .. and only there. -/
theorem fits_none (t : TlbM) (va asid : Int) (he : eitherM t = true) (h : (hitM t va asid).1 = false) : ∀ x ∈ t.es, fitsM x va asid = false := by
  intro x hx
  cases hf : fitsM x va asid
  · rfl
  · exfalso
    obtain ⟨j, hj⟩ := List.getElem?_of_mem hx
    have hval : x.valid = true := by
      simp only [fitsM, Bool.and_eq_true] at hf
      exact hf.1.1
    have hl := either_level he j x hj hval
    have hne : ∀ l : Int, x.level = l → findL va asid l 0 t.es ≠ none := by
      intro l hxl hn
      have : ∀ (es : List EntM) (i : Nat), findL va asid l i es = none → ∀ y ∈ es, hitB va asid l y = false := by
        intro es
        induction es with
        | nil => intro i _ y hy; cases hy
        | cons z r ih =>
          intro i hn y hy
          rw [findL] at hn
          split at hn
          · cases hn
          · rename_i hz
            rcases List.mem_cons.1 hy with rfl | hy
            · simpa using hz
            · exact ih (i + 1) hn y hy
      have := this t.es 0 hn x hx
      simp [hitB, hf, hxl] at this
    unfold hitM at h
    rw [if_neg (by rw [he]; simp)] at h
    rcases (show x.level = 0 ∨ x.level = 1 ∨ x.level = 2 by omega) with hx0 | hx0 | hx0
    · cases h0 : findL va asid 0 0 t.es with
      | none => exact hne 0 hx0 h0
      | some y => simp [h0, hitOf] at h
    · cases h0 : findL va asid 0 0 t.es with
      | some y => simp [h0, hitOf] at h
      | none =>
        cases h1 : findL va asid 1 0 t.es with
        | none => exact hne 1 hx0 h1
        | some y => simp [h0, h1, hitOf] at h
    · cases h0 : findL va asid 0 0 t.es with
      | some y => simp [h0, hitOf] at h
      | none =>
        cases h1 : findL va asid 1 0 t.es with
        | some y => simp [h0, h1, hitOf] at h
        | none =>
          cases h2 : findL va asid 2 0 t.es with
          | none => exact hne 2 hx0 h2
          | some y => simp [h0, h1, h2, hitOf] at h

/-- What was put in where nothing fitted is what is found. -/
theorem hit_insert (t : TlbM) (e : EntM) (pick : Int) (p : Bool) (va asid : Int) (hv : validM t p = true) (hg : goodEntM e p = true) (ht : 0 ≤ e.tag) (hp : 0 ≤ pick ∧ pick ≤ 255)
    (hn : (hitM t va asid).1 = false) (hf : fitsM e va asid = true) : hitM (insertM t e pick) va asid = (true, ((firstM t e + wayM t e pick : Nat) : Int), e.level, e.pte) := by
  have hiv := insert_valid t e pick p hv hg ht
  have hfi : fitsInM t e = true := by
    simp only [fitsInM, Bool.or_eq_true, Bool.and_eq_true]
    cases p
    · exact .inr ⟨hv, hg⟩
    · exact .inl ⟨hv, hg⟩
  have hlt := idx_lt (pick := pick) hv ht
  have hins : insertM t e pick = ⟨t.sets, t.ways, t.es.set (firstM t e + wayM t e pick) e⟩ := by
    unfold insertM
    rw [if_pos ⟨hfi, hp.1, hp.2⟩]
  have hno := fits_none t va asid (either_of hv) hn
  have hei := either_of hiv
  rw [hins] at hei ⊢
  have hlev : 0 ≤ e.level ∧ e.level ≤ 2 := by
    simp only [goodEntM, Bool.and_eq_true, decide_eq_true_eq] at hg
    exact ⟨hg.1.1.1.1.1.2, hg.1.1.1.1.2⟩
  obtain ⟨l, hl⟩ := Int.eq_ofNat_of_zero_le hlev.1
  have hother : ∀ (j : Nat) x, j ≠ firstM t e + wayM t e pick → (t.es.set (firstM t e + wayM t e pick) e)[j]? = some x → fitsM x va asid = false := by
    intro j x hj hx
    rw [List.getElem?_set_ne (Ne.symm hj)] at hx
    exact hno x (List.mem_of_getElem? hx)
  rw [hl]
  refine hitM_at _ va asid l _ e hei (by omega) ?_ ?_
  · intro l' hl'
    refine findL_none va asid l' _ 0 (fun j x hx => ?_)
    by_cases hj : j = firstM t e + wayM t e pick
    · subst hj
      rw [List.getElem?_set_self hlt] at hx
      cases hx
      simp only [hitB, Bool.and_eq_false_iff, beq_eq_false_iff_ne]
      left; omega
    · simp [hitB, hother j x hj hx]
  · have := findL_some va asid l (t.es.set (firstM t e + wayM t e pick) e) 0 (firstM t e + wayM t e pick) e (List.getElem?_set_self hlt) (by simp [hitB, hf, hl]) (fun j y hj hy => by simp [hitB, hother j y (by omega) hy])
    simpa using this

end Go.Proofs.Ythekickjjaleaab
