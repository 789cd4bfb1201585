import Derived.Test.YthekickjjaleaacGreatPack07
import Derived.Test.YthekickjjaleaacGreatPack05
import Derived.Test.YthekickjjaleaacGreatPack06
/- Plain mathematics of chapter 4: insertion, flushing and the translation with caches, and what they keep. -/
namespace Go.Proofs.YthekickjjaleaacGreat
set_option linter.unusedVariables false

structure KM where
  i : TlbM
  d : TlbM
  p : TlbM

def tlb0 : TlbM := ⟨0, 0, []⟩
def k0M : KM := ⟨tlb0, tlb0, tlb0⟩
def goodKM (k : KM) : Bool := validM k.i false && validM k.d false && validM k.p true
def entM (level va satp pte : Int) : EntM := ⟨true, level, tagM va level, asidM satp, bitB pte 32, pte⟩

def flushM (t : TlbM) (f : FenceM) : TlbM := if eitherM t = true then ⟨t.sets, t.ways, t.es.map (struckM f)⟩ else t

def fitsInM (t : TlbM) (e : EntM) : Bool := (validM t true && goodEntM e true) || (validM t false && goodEntM e false)
def firstM (t : TlbM) (e : EntM) : Nat := (e.tag % t.sets * t.ways).toNat
def wayM (t : TlbM) (e : EntM) (pick : Int) : Nat := (freeM t.es (firstM t e) 0 t.ways.toNat).getD (pick % t.ways).toNat
def insertM (t : TlbM) (e : EntM) (pick : Int) : TlbM :=
  if fitsInM t e = true ∧ 0 ≤ pick ∧ pick ≤ 255 then ⟨t.sets, t.ways, t.es.set (firstM t e + wayM t e pick) e⟩ else t

def ptrsM (va satp pick : Int) : List RecM → TlbM → TlbM
  | [], p => p
  | r :: rs, p => ptrsM va satp pick rs (if kindM r.2.2 r.1 = 1 then insertM p (entM r.1 va satp r.2.2) pick else p)

/-- The walk of a translation that found no leaf: from a kept pointer or from the root. -/
def resumeM (zs : List Int) (satp va : Int) (up : Bool × Int × Int × Int) : Int × Int × Int × List RecM :=
  if up.1 = true then fromM zs va (up.2.2.1 - 1).toNat (ppnM up.2.2.2) else walkM zs satp va

def putM (k : KM) (kind : Int) (t : TlbM) : KM := if kind = 0 then ⟨t, k.d, k.p⟩ else ⟨k.i, t, k.p⟩
def pickM (k : KM) (kind : Int) : TlbM := if kind = 0 then k.i else k.d

def tlbTransM (zs : List Int) (mode : Int) (sum mxr : Bool) (satp : Int) (k : KM) (kind va pick : Int) : (Int × Int) × KM :=
  if goodKM k = false ∨ kind < 0 ∨ 2 < kind ∨ mode < 0 ∨ 2 < mode ∨ pick < 0 ∨ 255 < pick then ((63, 0), k0M)
  else if onM mode satp = false then ((0, va), k)
  else if canonM va = false then ((pageM kind, 0), k)
  else if (hitM (pickM k kind) va (asidM satp)).1 = true then (leafM (hitM (pickM k kind) va (asidM satp)).2.2.2 (hitM (pickM k kind) va (asidM satp)).2.2.1 mode sum mxr kind va, k)
  else
    let r := resumeM zs satp va (hitM k.p va (asidM satp))
    let a := answerM r mode sum mxr kind va
    let k' : KM := ⟨k.i, k.d, ptrsM va satp pick r.2.2.2 k.p⟩
    (a, if a.1 = 0 then putM k' kind (insertM (pickM k kind) (entM r.2.1 va satp r.2.2.1) pick) else k')

theorem shape_of {t : TlbM} {p : Bool} (h : validM t p = true) : (t.sets = 1 ∨ t.sets = 2 ∨ t.sets = 4 ∨ t.sets = 8) ∧ 1 ≤ t.ways ∧ t.ways ≤ 4 ∧ (t.es.length : Int) = t.sets * t.ways := by
  simp only [validM, Bool.and_eq_true, shapeM, decide_eq_true_eq] at h
  exact h.1

theorem place_of {t : TlbM} {p : Bool} (h : validM t p = true) (j : Nat) (x : EntM) (hx : t.es[j]? = some x) : placeM t p j x = true := by
  simp only [validM, Bool.and_eq_true] at h
  have := places_at t p t.es 0 h.2 j x hx
  simpa using this

theorem valid_of {t : TlbM} {p : Bool} (h : shapeM t = true) (hp : ∀ (j : Nat) x, t.es[j]? = some x → placeM t p j x = true) : validM t p = true := by
  simp only [validM, Bool.and_eq_true]
  exact ⟨h, placesM_true t p t.es 0 (fun j x hx => by simpa using hp j x hx)⟩

theorem either_of {t : TlbM} {p : Bool} (h : validM t p = true) : eitherM t = true := by
  cases p <;> simp [eitherM, h]

theorem freeM_lt (es : List EntM) (first : Nat) : ∀ (left w r : Nat), freeM es first w left = some r → w ≤ r ∧ r < w + left
  | 0, w, r, h => by simp [freeM] at h
  | left + 1, w, r, h => by
    rw [freeM] at h
    split at h
    · cases h; omega
    · have := freeM_lt es first left (w + 1) r h
      omega

theorem wayM_lt (t : TlbM) (e : EntM) (pick : Int) (hw : 1 ≤ t.ways) (hw' : t.ways ≤ 4) : (wayM t e pick : Int) < t.ways := by
  unfold wayM
  cases h : freeM t.es (firstM t e) 0 t.ways.toNat with
  | none =>
    simp only [Option.getD_none]
    have h1 : 0 ≤ pick % t.ways := Int.emod_nonneg _ (by omega)
    have h2 : pick % t.ways < t.ways := Int.emod_lt_of_pos _ (by omega)
    omega
  | some r =>
    simp only [Option.getD_some]
    have := freeM_lt _ _ _ _ _ h
    omega

theorem first_at {t : TlbM} {e : EntM} (ht : 0 ≤ e.tag) (hs : t.sets = 1 ∨ t.sets = 2 ∨ t.sets = 4 ∨ t.sets = 8) (hw : 1 ≤ t.ways) : (firstM t e : Int) = e.tag % t.sets * t.ways := by
  unfold firstM
  have : 0 ≤ e.tag % t.sets := Int.emod_nonneg _ (by omega)
  have := Int.mul_nonneg this (by omega : 0 ≤ t.ways)
  omega

theorem idx_lt {t : TlbM} {p : Bool} {e : EntM} {pick : Int} (hv : validM t p = true) (ht : 0 ≤ e.tag) : firstM t e + wayM t e pick < t.es.length := by
  obtain ⟨hs, hw, hw', hl⟩ := shape_of hv
  have h1 := first_at (e := e) ht hs hw
  have h2 := wayM_lt t e pick hw hw'
  have h3 : e.tag % t.sets < t.sets := Int.emod_lt_of_pos _ (by omega)
  have h4 : 0 ≤ e.tag % t.sets := Int.emod_nonneg _ (by omega)
  have h5 : (e.tag % t.sets + 1) * t.ways ≤ t.sets * t.ways := Int.mul_le_mul_of_nonneg_right (by omega) (by omega)
  rw [Int.add_mul] at h5
  omega

theorem idx_set {t : TlbM} {p : Bool} {e : EntM} {pick : Int} (hv : validM t p = true) (ht : 0 ≤ e.tag) : ((firstM t e + wayM t e pick : Nat) : Int) / t.ways = e.tag % t.sets := by
  obtain ⟨hs, hw, hw', hl⟩ := shape_of hv
  have h1 := first_at (e := e) ht hs hw
  have h2 := wayM_lt t e pick hw hw'
  rw [show ((firstM t e + wayM t e pick : Nat) : Int) = (wayM t e pick : Int) + (e.tag % t.sets) * t.ways by omega, Int.add_mul_ediv_right _ _ (by omega)]
  rw [Int.ediv_eq_zero_of_lt (by omega) h2]
  omega

theorem good_kind {e : EntM} {p : Bool} (h : goodEntM e p = true) : kindM e.pte e.level = wantM p := by
  simp only [goodEntM, Bool.and_eq_true, beq_iff_eq] at h
  exact h.2

theorem good_sense {e : EntM} {p q : Bool} (h : goodEntM e p = true) (h' : goodEntM e q = true) : p = q := by
  have h1 := good_kind h
  have h2 := good_kind h'
  cases p <;> cases q <;> simp [wantM] at h1 h2 <;> first | rfl | omega

/-- Insertion keeps a valid cache valid, in the sense of the entry. -/
theorem insert_valid (t : TlbM) (e : EntM) (pick : Int) (p : Bool) (hv : validM t p = true) (hg : goodEntM e p = true) (ht : 0 ≤ e.tag) : validM (insertM t e pick) p = true := by
  unfold insertM
  split
  · have hs := shape_of hv
    refine valid_of ?_ ?_
    · simp only [shapeM, decide_eq_true_eq, List.length_set]
      exact hs
    · intro j x hx
      simp only [List.getElem?_set] at hx
      split at hx
      · rename_i hj
        split at hx
        · cases hx
          subst hj
          simp only [placeM, Bool.or_eq_true, Bool.and_eq_true, beq_iff_eq]
          exact .inr ⟨hg, (idx_set (pick := pick) hv ht).symm⟩
        · cases hx
      · exact place_of hv j x hx
  · exact hv

theorem insert_same (t : TlbM) (e : EntM) (pick : Int) (p : Bool) (hg : goodEntM e p = true) (hv : validM t p = false) : insertM t e pick = t := by
  unfold insertM
  rw [if_neg]
  rintro ⟨h, _⟩
  simp only [fitsInM, Bool.or_eq_true, Bool.and_eq_true] at h
  rcases h with ⟨h1, h2⟩ | ⟨h1, h2⟩
  · have := good_sense h2 hg; subst this; rw [hv] at h1; cases h1
  · have := good_sense h2 hg; subst this; rw [hv] at h1; cases h1

theorem flush_valid (t : TlbM) (f : FenceM) (p : Bool) (hv : validM t p = true) : validM (flushM t f) p = true := by
  unfold flushM
  rw [if_pos (either_of hv)]
  have hs := shape_of hv
  refine valid_of ?_ ?_
  · simp only [shapeM, decide_eq_true_eq, List.length_map]
    exact hs
  · intro j x hx
    simp only [List.getElem?_map, Option.map_eq_some_iff] at hx
    obtain ⟨y, hy, rfl⟩ := hx
    have := place_of hv j y hy
    unfold struckM
    split
    · simp [placeM, ent0]
    · exact this

/-- Nothing is found where nothing fits. -/
theorem hit_none (t : TlbM) (va asid : Int) (h : ∀ x ∈ t.es, fitsM x va asid = false) : hitM t va asid = (false, 0, 0, 0) := by
  by_cases he : eitherM t = true
  · refine hitM_none t va asid he (fun l hl => findL_none va asid l t.es 0 (fun j x hx => ?_))
    simp [hitB, h x (List.mem_of_getElem? hx)]
  · unfold hitM
    rw [if_pos (by simpa using he)]

/-- .. and only there. -/
theorem fits_none (t : TlbM) (va asid : Int) (he : eitherM t = true) (h : (hitM t va asid).1 = false) : ∀ x ∈ t.es, fitsM x va asid = false := by
  intro x hx
  cases hf : fitsM x va asid
  · rfl
  · exfalso
    obtain ⟨j, hj⟩ := List.getElem?_of_mem hx
    have hval : x.valid = true := by
      simp only [fitsM, Bool.and_eq_true] at hf
      exact hf.1.1
    have hl := either_level he j x hj hval
    have hne : ∀ l : Int, x.level = l → findL va asid l 0 t.es ≠ none := by
      intro l hxl hn
      have : ∀ (es : List EntM) (i : Nat), findL va asid l i es = none → ∀ y ∈ es, hitB va asid l y = false := by
        intro es
        induction es with
        | nil => intro i _ y hy; cases hy
        | cons z r ih =>
          intro i hn y hy
          rw [findL] at hn
          split at hn
          · cases hn
          · rename_i hz
            rcases List.mem_cons.1 hy with rfl | hy
            · simpa using hz
            · exact ih (i + 1) hn y hy
      have := this t.es 0 hn x hx
      simp [hitB, hf, hxl] at this
    unfold hitM at h
    rw [if_neg (by rw [he]; simp)] at h
    rcases (show x.level = 0 ∨ x.level = 1 ∨ x.level = 2 by omega) with hx0 | hx0 | hx0
    · cases h0 : findL va asid 0 0 t.es with
      | none => exact hne 0 hx0 h0
      | some y => simp [h0, hitOf] at h
    · cases h0 : findL va asid 0 0 t.es with
      | some y => simp [h0, hitOf] at h
      | none =>
        cases h1 : findL va asid 1 0 t.es with
        | none => exact hne 1 hx0 h1
        | some y => simp [h0, h1, hitOf] at h
    · cases h0 : findL va asid 0 0 t.es with
      | some y => simp [h0, hitOf] at h
      | none =>
        cases h1 : findL va asid 1 0 t.es with
        | some y => simp [h0, h1, hitOf] at h
        | none =>
          cases h2 : findL va asid 2 0 t.es with
          | none => exact hne 2 hx0 h2
          | some y => simp [h0, h1, h2, hitOf] at h

/-- What was put in where nothing fitted is what is found. -/
theorem hit_insert (t : TlbM) (e : EntM) (pick : Int) (p : Bool) (va asid : Int) (hv : validM t p = true) (hg : goodEntM e p = true) (ht : 0 ≤ e.tag) (hp : 0 ≤ pick ∧ pick ≤ 255)
    (hn : (hitM t va asid).1 = false) (hf : fitsM e va asid = true) : hitM (insertM t e pick) va asid = (true, ((firstM t e + wayM t e pick : Nat) : Int), e.level, e.pte) := by
  have hiv := insert_valid t e pick p hv hg ht
  have hfi : fitsInM t e = true := by
    simp only [fitsInM, Bool.or_eq_true, Bool.and_eq_true]
    cases p
    · exact .inr ⟨hv, hg⟩
    · exact .inl ⟨hv, hg⟩
  have hlt := idx_lt (pick := pick) hv ht
  have hins : insertM t e pick = ⟨t.sets, t.ways, t.es.set (firstM t e + wayM t e pick) e⟩ := by
    unfold insertM
    rw [if_pos ⟨hfi, hp.1, hp.2⟩]
  have hno := fits_none t va asid (either_of hv) hn
  have hei := either_of hiv
  rw [hins] at hei ⊢
  have hlev : 0 ≤ e.level ∧ e.level ≤ 2 := by
    simp only [goodEntM, Bool.and_eq_true, decide_eq_true_eq] at hg
    exact ⟨hg.1.1.1.1.1.2, hg.1.1.1.1.2⟩
  obtain ⟨l, hl⟩ := Int.eq_ofNat_of_zero_le hlev.1
  have hother : ∀ (j : Nat) x, j ≠ firstM t e + wayM t e pick → (t.es.set (firstM t e + wayM t e pick) e)[j]? = some x → fitsM x va asid = false := by
    intro j x hj hx
    rw [List.getElem?_set_ne (Ne.symm hj)] at hx
    exact hno x (List.mem_of_getElem? hx)
  rw [hl]
  refine hitM_at _ va asid l _ e hei (by omega) ?_ ?_
  · intro l' hl'
    refine findL_none va asid l' _ 0 (fun j x hx => ?_)
    by_cases hj : j = firstM t e + wayM t e pick
    · subst hj
      rw [List.getElem?_set_self hlt] at hx
      cases hx
      simp only [hitB, Bool.and_eq_false_iff, beq_eq_false_iff_ne]
      left; omega
    · simp [hitB, hother j x hj hx]
  · have := findL_some va asid l (t.es.set (firstM t e + wayM t e pick) e) 0 (firstM t e + wayM t e pick) e (List.getElem?_set_self hlt) (by simp [hitB, hf, hl]) (fun j y hj hy => by simp [hitB, hother j y (by omega) hy])
    simpa using this

end Go.Proofs.YthekickjjaleaacGreat

/- The specification's Flush. -/
namespace Go.Proofs.YthekickjjaleaacGreat
open Go.RowKit
set_option linter.unusedVariables false
attribute [local go_sem ↓] Go.wp_at_zero Go.wp_at_succ

/-- The entries, the first k of them struck by the fence. -/
def struckN (f : FenceM) (k : Nat) (es : List EntM) : List EntM := (es.take k).map (struckM f) ++ es.drop k

theorem struckN_len (f : FenceM) (k : Nat) (es : List EntM) : (struckN f k es).length = es.length := by
  simp [struckN]; omega

theorem struckN_next (f : FenceM) (k : Nat) (es : List EntM) (x : EntM) (hx : es[k]? = some x) : struckN f (k + 1) es = (struckN f k es).set k (struckM f x) := by
  obtain ⟨hk, rfl⟩ := List.getElem?_eq_some_iff.1 hx
  unfold struckN
  apply List.ext_getElem?
  intro j
  rw [List.getElem?_set]
  by_cases hj : k = j
  · subst hj
    rw [if_pos rfl, if_pos (by simp; omega), List.getElem?_append_left (by simp; omega)]
    simp [hk]
  · rw [if_neg hj]
    by_cases hlt : j < k
    · rw [List.getElem?_append_left (by simp; omega), List.getElem?_append_left (by simp; omega)]
      simp [hlt, show j < k + 1 by omega]
    · rw [List.getElem?_append_right (by simp; omega), List.getElem?_append_right (by simp; omega)]
      simp
      rw [show min (k + 1) es.length = k + 1 by omega, show min k es.length = k by omega]
      congr 1
      omega

theorem entsC_set : ∀ (l : List EntM) (k : Nat) (e : EntM), k < l.length → entsC (l.set k e) = ((((((entsC l).set (k * 6) (.bool e.valid)).set (k * 6 + 1) (.int .i64 e.level)).set (k * 6 + 2) (.int .u64 e.tag)).set (k * 6 + 3) (.int .u64 e.asid)).set (k * 6 + 4) (.bool e.glob)).set (k * 6 + 5) (.int .u64 e.pte)
  | x :: r, 0, e, h => by simp [entsC, entC]
  | x :: r, k + 1, e, h => by
    have ih := entsC_set r k e (by simpa using h)
    rw [List.set_cons_succ]
    simp only [entsC, ih]
    rw [show (k + 1) * 6 = (entC x).length + k * 6 by simp [entC]; omega]
    simp only [Nat.add_assoc]
    rw [List.set_append_right _ _ (by simp [entC]), List.set_append_right _ _ (by omega), List.set_append_right _ _ (by omega), List.set_append_right _ _ (by omega), List.set_append_right _ _ (by omega), List.set_append_right _ _ (by omega)]
    simp

set_option maxRecDepth 20000 in
set_option maxHeartbeats 3200000 in
theorem specFlush_any (v : Value) (t : TlbM) (f : FenceM) (w : World) (h : TlbAt w v t) (hf0 : 0 ≤ f.va) (hf1 : f.va ≤ 18446744073709551615) :
    Calls Tryz.prog 206 #[v, fenceV f] w fun e w' => (∃ x, e = .returned x ∧ TlbOwn w.heap.size w' x (flushM t f)) ∧ Below w.heap.size w w' := by
  have HT : Hid (TlbAt w v t) := h
  have HOK : Hid (tlbOk t) := TlbAt.ok h
  obtain ⟨a, cap, rfl, hr, _, _, _, hl, hlc, hcm, hnil, hsp⟩ := h
  obtain ⟨eb, heb⟩ : ∃ eb, eitherM t = eb := ⟨_, rfl⟩
  have HEb : Hid (eitherM t = eb) := heb
  obtain ⟨sets, ways, es⟩ := t
  obtain ⟨hv, fva, ha, fa⟩ := f
  obtain ⟨n, hn⟩ : ∃ n, es.length = n := ⟨_, rfl⟩
  simp only at hr hl hlc hnil hf0 hf1 HT ⊢
  have HN : Hid (es.length = n) := hn
  rw [hn] at hr hl hlc hnil HT ⊢
  obtain ⟨X, hX⟩ : ∃ X, flushM ⟨sets, ways, es⟩ ⟨hv, fva, ha, fa⟩ = X := ⟨_, rfl⟩
  have HX : Hid (flushM ⟨sets, ways, es⟩ ⟨hv, fva, ha, fa⟩ = X) := hX
  rw [hX]
  have HR0 : Hid (RowC w a n 6 (entsC es)) := hr
  have HLv : Hid (eb = true → ∀ (j : Nat) x, es[j]? = some x → x.valid = true → 0 ≤ x.level ∧ x.level ≤ 2) := fun h j x hx hv => either_level (t := ⟨sets, ways, es⟩) (heb.trans h) j x hx hv
  clear hX
  unfold fenceV
  simp only
  have n1 := (((Below.refl w.heap.size w).alloc (Nat.le_refl _) (Obj.cells #[.int .i64 sets, .int .i64 ways, .slice a n cap] 34)).alloc (by simp) (Obj.cells #[.bool hv, .int .u64 fva, .bool ha, .int .u64 fa] 131)).alloc (by simp; omega) (Obj.cells #[.int .i64 0, .int .i64 0, .slice none 0 0] 34)
  have HT1 : Hid (TlbAt (((w.alloc (Obj.cells #[.int .i64 sets, .int .i64 ways, .slice a n cap] 34)).alloc (Obj.cells #[.bool hv, .int .u64 fva, .bool ha, .int .u64 fa] 131)).alloc (Obj.cells #[.int .i64 0, .int .i64 0, .slice none 0 0] 34)) (.agg #[.int .i64 sets, .int .i64 ways, .slice a n cap]) ⟨sets, ways, es⟩) := HT.out.keep n1
  have HR1 : Hid (RowC (((w.alloc (Obj.cells #[.int .i64 sets, .int .i64 ways, .slice a n cap] 34)).alloc (Obj.cells #[.bool hv, .int .u64 fva, .bool ha, .int .u64 fa] 131)).alloc (Obj.cells #[.int .i64 0, .int .i64 0, .slice none 0 0] 34)) a n 6 (entsC es)) := hr.keep n1
  have H1 : Hid ((((w.alloc (Obj.cells #[.int .i64 sets, .int .i64 ways, .slice a n cap] 34)).alloc (Obj.cells #[.bool hv, .int .u64 fva, .bool ha, .int .u64 fa] 131)).alloc (Obj.cells #[.int .i64 0, .int .i64 0, .slice none 0 0] 34)).heap[w.heap.size]? = some (.cells #[.int .i64 sets, .int .i64 ways, .slice a n cap] 34 (0, 0))) := by
    show _ = _
    rw [heap_alloc_old _ _ (by simp; omega), heap_alloc_old _ _ (by simp)]
    exact heap_alloc_new w _
  have H2 : Hid ((((w.alloc (Obj.cells #[.int .i64 sets, .int .i64 ways, .slice a n cap] 34)).alloc (Obj.cells #[.bool hv, .int .u64 fva, .bool ha, .int .u64 fa] 131)).alloc (Obj.cells #[.int .i64 0, .int .i64 0, .slice none 0 0] 34)).heap[w.heap.size + 1]? = some (.cells #[.bool hv, .int .u64 fva, .bool ha, .int .u64 fa] 131 (0, 0))) := by
    show _ = _
    rw [heap_alloc_old _ _ (by simp)]
    have := heap_alloc_new (w.alloc (Obj.cells #[.int .i64 sets, .int .i64 ways, .slice a n cap] 34)) (Obj.cells #[.bool hv, .int .u64 fva, .bool ha, .int .u64 fa] 131)
    simp only [World.size_alloc] at this
    exact this
  have H3 : Hid ((((w.alloc (Obj.cells #[.int .i64 sets, .int .i64 ways, .slice a n cap] 34)).alloc (Obj.cells #[.bool hv, .int .u64 fva, .bool ha, .int .u64 fa] 131)).alloc (Obj.cells #[.int .i64 0, .int .i64 0, .slice none 0 0] 34)).heap[w.heap.size + 1 + 1]? = some (.cells #[.int .i64 0, .int .i64 0, .slice none 0 0] 34 (0, 0))) := by
    have := heap_alloc_new ((w.alloc (Obj.cells #[.int .i64 sets, .int .i64 ways, .slice a n cap] 34)).alloc (Obj.cells #[.bool hv, .int .u64 fva, .bool ha, .int .u64 fa] 131)) (Obj.cells #[.int .i64 0, .int .i64 0, .slice none 0 0] 34)
    simp only [World.size_alloc] at this
    exact this
  have l1 : w.heap.size + 1 + 1 < (((w.alloc (Obj.cells #[.int .i64 sets, .int .i64 ways, .slice a n cap] 34)).alloc (Obj.cells #[.bool hv, .int .u64 fva, .bool ha, .int .u64 fa] 131)).alloc (Obj.cells #[.int .i64 0, .int .i64 0, .slice none 0 0] 34)).heap.size := by simp
  clear hr hnil hsp HT heb hn
  go_enter Tryz.func206, Tryz.ntmps206
  go_wp2_with fail
  generalize (((w.alloc (Obj.cells #[.int .i64 sets, .int .i64 ways, .slice a n cap] 34)).alloc (Obj.cells #[.bool hv, .int .u64 fva, .bool ha, .int .u64 fa] 131)).alloc (Obj.cells #[.int .i64 0, .int .i64 0, .slice none 0 0] 34)) = v1 at n1 HT1 HR1 H1 H2 H3 l1 ⊢
  refine (l4Copy_any _ ⟨sets, ways, es⟩ v1 HT1.out).mono ?_
  rintro e v2 ⟨⟨x, rfl, g, cp, rfl, o2⟩, n2⟩
  simp only at o2 ⊢
  rw [HN.out] at o2 ⊢
  have O2 : Hid (v2.ownsRow v1.heap.size 101 6 (.slice (some ⟨g, 0, none⟩) n cp) n (entsC es)) := o2
  have hg := own_at o2
  have n12 := Below.step n1 n2 (Nat.le_refl _)
  have HT2 : Hid (TlbAt v2 (.agg #[.int .i64 sets, .int .i64 ways, .slice a n cap]) ⟨sets, ways, es⟩) := HT1.out.keep n2
  have HR2 : Hid (RowC v2 a n 6 (entsC es)) := RowC.keep HR1.out n2
  have K1 := hid_keep H1 n2
  have K2 := hid_keep H2 n2
  have K3 := hid_keep H3 n2
  have l2 : v1.heap.size ≤ v2.heap.size := n2.size
  obtain ⟨_, hg1, hg2⟩ := hg
  simp only at hg1 hg2
  clear o2 n1 n2 HT1 HR1 H1 H2 H3
  obtain ⟨⟨c0, c1, c2⟩, _, _, _⟩ := three_cells K1.out
  have s0 : w.heap.size < v2.heap.size := by omega
  go_wp2_with fail
  have n3 := (Below.refl v2.heap.size v2).alloc (Nat.le_refl _) (Obj.cells #[.int .i64 sets, .int .i64 ways, .slice (some ⟨g, 0, none⟩) n cp] 34)
  have H4 : Hid ((v2.alloc (Obj.cells #[.int .i64 sets, .int .i64 ways, .slice (some ⟨g, 0, none⟩) n cp] 34)).heap[v2.heap.size]? = some (.cells #[.int .i64 sets, .int .i64 ways, .slice (some ⟨g, 0, none⟩) n cp] 34 (0, 0))) := heap_alloc_new v2 _
  have l3 : v2.heap.size < (v2.alloc (Obj.cells #[.int .i64 sets, .int .i64 ways, .slice (some ⟨g, 0, none⟩) n cp] 34)).heap.size := by simp
  generalize v2.alloc (Obj.cells #[.int .i64 sets, .int .i64 ways, .slice (some ⟨g, 0, none⟩) n cp] 34) = v3 at n3 H4 l3 ⊢
  have n13 := Below.step n12 n3 (Nat.le_refl _)
  have HT3 : Hid (TlbAt v3 (.agg #[.int .i64 sets, .int .i64 ways, .slice a n cap]) ⟨sets, ways, es⟩) := HT2.out.keep n3
  refine (l4Either_any _ ⟨sets, ways, es⟩ v3 HT3.out).mono ?_
  rw [HEb.out]
  rintro e v4 ⟨rfl, n4⟩
  have n34 := Below.step n3 n4 (Nat.le_refl _)
  have A4 := Below.step n12 n34 (Nat.le_refl _)
  have HR4 : Hid (RowC v4 a n 6 (entsC es)) := RowC.keep HR2.out n34
  have O4 : Hid (v4.ownsRow v1.heap.size 101 6 (.slice (some ⟨g, 0, none⟩) n cp) n (entsC es)) := own_below O2.out n34
  have P1 := hid_keep K1 n34
  have P2 := hid_keep K2 n34
  have P3 := hid_keep K3 n34
  have P4 := hid_keep H4 n4
  have l4 : v2.heap.size < v4.heap.size := Nat.lt_of_lt_of_le l3 n4.size
  clear c0 c1 c2 n12 n13 n3 n4 n34 HT2 HT3 HR2 O2 K1 K2 K3 H4 l3
  obtain ⟨⟨p0, p1, p2⟩, _, _, _⟩ := three_cells P4.out
  cases eb
  · have hfl : X = ⟨sets, ways, es⟩ := by rw [← HX.out]; unfold flushM; rw [if_neg (by rw [HEb.out]; simp)]
    obtain ⟨⟨d0, d1, d2⟩, e0, e1, e2⟩ := three_cells P3.out
    go_wp2_with fail
    refine bodyPost_ret (v := .agg #[.int .i64 sets, .int .i64 ways, .slice (some ⟨g, 0, none⟩) n cp]) (by simp [results, Tryz.results206, go_sem, d0, d1, d2]) rfl ⟨⟨_, rfl, ?_⟩, bel3 A4 (by omega) _ _ _⟩
    rw [hfl]
    refine ⟨g, cp, by rw [HN.out], ?_⟩
    simp only
    rw [HN.out]
    exact own_low (own_gb O4.out (gb3 v4 (w.heap.size + 1 + 1) _ _ _) (by omega)) (by omega)
  · have HLv' := HLv.out rfl
    have HL2 : Hid (∀ (j : Nat) x, es[j]? = some x → x.valid = true → 0 ≤ x.level ∧ x.level ≤ 2) := HLv'
    clear HLv HLv'
    go_wp2_with fail
    go_loopw [6] (fun i wr => ∃ k : Nat, k ≤ n ∧ i = .int .i64 k ∧ v4.grownBy wr (some g) ∧ wr.ownsRow v1.heap.size 101 6 (.slice (some ⟨g, 0, none⟩) n cp) n (entsC (struckN ⟨hv, fva, ha, fa⟩ k es))) (fun i _ => n - (intOf i).toNat)
    case atStart => exact ⟨0, Nat.zero_le _, rfl, gb_refl _ _, by rw [show struckN ⟨hv, fva, ha, fa⟩ 0 es = es by simp [struckN]]; exact O4.out⟩
    case round =>
      obtain ⟨k, hk, rfl, hn, hO⟩ := hrel
      have HO : Hid (wr.ownsRow v1.heap.size 101 6 (.slice (some ⟨g, 0, none⟩) n cp) n (entsC (struckN ⟨hv, fva, ha, fa⟩ k es))) := hO
      have lr : v4.heap.size ≤ wr.heap.size := hn.size
      clear p0 p1 p2
      obtain ⟨⟨p0, p1, p2⟩, _, _, _⟩ := three_cells (heap_gb P4.out hn (by omega))
      by_cases hlt : k < n
      · obtain ⟨x, hx⟩ : ∃ x, es[k]? = some x := ⟨_, List.getElem?_eq_getElem (by rw [HN.out]; exact hlt)⟩
        obtain ⟨b, off, rfl, hb⟩ : ∃ b off, a = some ⟨b, off, none⟩ ∧ b < w.heap.size := by
          rcases HR0.out.2 with h | ⟨b, off, h, h2, _⟩
          · omega
          · exact ⟨b, off, h, h2⟩
        have CE : ∀ j u, j < 6 → (entC x)[j]? = some u → wr.cell? ⟨b, off + (k * 6 + j), none⟩ = some u := fun j u hj hu =>
          gb_cell hn (Below.cell2 A4 (row_cell HR0.out HN.out k x hx j u hj hu) hb) (by omega) (by omega)
        obtain ⟨vv, lv, tg, asd, gl, pt⟩ := x
        have g0 : wr.cell? ⟨b, off + k * 6, none⟩ = some (.bool vv) := CE 0 _ (by omega) rfl
        have g1 : wr.cell? ⟨b, off + k * 6 + 1, none⟩ = some (.int .i64 lv) := CE 1 _ (by omega) rfl
        have g2 : wr.cell? ⟨b, off + k * 6 + 2, none⟩ = some (.int .u64 tg) := CE 2 _ (by omega) rfl
        have g3 : wr.cell? ⟨b, off + k * 6 + 3, none⟩ = some (.int .u64 asd) := CE 3 _ (by omega) rfl
        have g4 : wr.cell? ⟨b, off + k * 6 + 4, none⟩ = some (.bool gl) := CE 4 _ (by omega) rfl
        have g5 : wr.cell? ⟨b, off + k * 6 + 5, none⟩ = some (.int .u64 pt) := CE 5 _ (by omega) rfl
        have hok : entOk ⟨vv, lv, tg, asd, gl, pt⟩ := HOK.out.1 _ (List.mem_of_getElem? hx)
        have HNx : Hid (struckN ⟨hv, fva, ha, fa⟩ (k + 1) es = (struckN ⟨hv, fva, ha, fa⟩ k es).set k (struckM ⟨hv, fva, ha, fa⟩ ⟨vv, lv, tg, asd, gl, pt⟩)) := struckN_next _ k es _ hx
        have HSm : Hid ((struckN ⟨hv, fva, ha, fa⟩ k es).set k ⟨vv, lv, tg, asd, gl, pt⟩ = struckN ⟨hv, fva, ha, fa⟩ k es) := by
          show _ = _
          apply List.ext_getElem?
          intro j
          rw [List.getElem?_set]
          by_cases hj : k = j
          · subst hj
            rw [if_pos rfl, if_pos (by rw [struckN_len, HN.out]; exact hlt)]
            unfold struckN
            have hkl : k ≤ es.length := by rw [HN.out]; omega
            rw [List.getElem?_append_right (by simp; omega), List.length_map, List.length_take, Nat.min_eq_left hkl, Nat.sub_self, List.getElem?_drop, Nat.add_zero, hx]
          · rw [if_neg hj]
        have HLx : Hid (vv = true → 0 ≤ lv ∧ lv ≤ 2) := fun h => HL2.out k _ hx h
        obtain ⟨⟨c0, c1, c2⟩, _, _, _⟩ := three_cells (heap_gb P1.out hn (by omega))
        obtain ⟨⟨f0, f1, f2, f3⟩, _, _, _, _⟩ := four_cells (heap_gb P2.out hn (by omega))
        have u0 : w.heap.size < wr.heap.size := by omega
        have u1 : w.heap.size + 1 < wr.heap.size := by omega
        have u2 : v2.heap.size < wr.heap.size := by omega
        have n5 := (Below.refl wr.heap.size wr).alloc (Nat.le_refl _) (Obj.cells #[.bool vv, .int .i64 lv, .int .u64 tg, .int .u64 asd, .bool gl, .int .u64 pt] 101)
        clear CE hx hO
        cases vv
        · have hst : struckM ⟨hv, fva, ha, fa⟩ ⟨false, lv, tg, asd, gl, pt⟩ = ⟨false, lv, tg, asd, gl, pt⟩ := by simp [struckM]
          go_wp2_with fail
          go_roundw
          case rel => exact ⟨k + 1, by omega, by go_num, gb_below hn n5, by rw [HNx.out, hst, HSm.out]; exact own_below HO.out n5⟩
          case measure => simp [intOf]; omega
        · obtain ⟨hl0, hl2⟩ := HLx.out rfl
          obtain ⟨cb, hcb⟩ : ∃ cb, coversM ⟨hv, fva, ha, fa⟩ lv tg asd gl = cb := ⟨_, rfl⟩
          have HCov : Hid (∀ w, Calls Tryz.prog 144 #[.agg #[.bool hv, .int .u64 fva, .bool ha, .int .u64 fa], .int .i64 lv, .int .u64 tg, .int .u64 asd, .bool gl] w fun e w' => e = .returned (.bool cb) ∧ Below w.heap.size w w') := fun w => by
            have := l4Covers_any ⟨hv, fva, ha, fa⟩ lv tg asd gl w hf0 hf1 hl0 hl2
            rw [hcb] at this
            exact this
          have HCb : Hid (coversM ⟨hv, fva, ha, fa⟩ lv tg asd gl = cb) := hcb
          clear hcb
          go_wp2_with fail
          generalize wr.alloc (Obj.cells #[.bool true, .int .i64 lv, .int .u64 tg, .int .u64 asd, .bool gl, .int .u64 pt] 101) = v5 at n5 ⊢
          refine (HCov.out v5).mono ?_
          rintro e v6 ⟨rfl, n6⟩
          have n56 := Below.step n5 n6 (Nat.le_refl _)
          have hn6 := gb_below hn n56
          have HO6 : Hid (v6.ownsRow v1.heap.size 101 6 (.slice (some ⟨g, 0, none⟩) n cp) n (entsC (struckN ⟨hv, fva, ha, fa⟩ k es))) := own_below HO.out n56
          clear g0 g1 g2 g3 g4 g5 c0 c1 c2 f0 f1 f2 f3 p0 p1 p2 n5 n6 HO hn
          obtain ⟨⟨p0, p1, p2⟩, _, _, _⟩ := three_cells (heap_gb P4.out hn6 (by omega))
          cases cb
          · have hst : struckM ⟨hv, fva, ha, fa⟩ ⟨true, lv, tg, asd, gl, pt⟩ = ⟨true, lv, tg, asd, gl, pt⟩ := by simp [struckM, HCb.out]
            go_wp2_with fail
            go_roundw
            case rel => exact ⟨k + 1, by omega, by go_num, hn6, by rw [HNx.out, hst, HSm.out]; exact HO6.out⟩
            case measure => simp [intOf]; omega
          · have hst : struckM ⟨hv, fva, ha, fa⟩ ⟨true, lv, tg, asd, gl, pt⟩ = ent0 := by simp [struckM, HCb.out]
            have hcl : (entsC (struckN ⟨hv, fva, ha, fa⟩ k es)).length = n * 6 := by rw [entsC_len, struckN_len, HN.out]
            have q0 := own_cell HO6.out (k * 6) _ (List.getElem?_eq_getElem (by omega))
            have q1 := own_cell HO6.out (k * 6 + 1) _ (List.getElem?_eq_getElem (by omega))
            have q2 := own_cell HO6.out (k * 6 + 2) _ (List.getElem?_eq_getElem (by omega))
            have q3 := own_cell HO6.out (k * 6 + 3) _ (List.getElem?_eq_getElem (by omega))
            have q4 := own_cell HO6.out (k * 6 + 4) _ (List.getElem?_eq_getElem (by omega))
            have q5 := own_cell HO6.out (k * 6 + 5) _ (List.getElem?_eq_getElem (by omega))
            generalize (entsC (struckN ⟨hv, fva, ha, fa⟩ k es))[k * 6]'_ = y0 at q0
            generalize (entsC (struckN ⟨hv, fva, ha, fa⟩ k es))[k * 6 + 1]'_ = y1 at q1
            generalize (entsC (struckN ⟨hv, fva, ha, fa⟩ k es))[k * 6 + 2]'_ = y2 at q2
            generalize (entsC (struckN ⟨hv, fva, ha, fa⟩ k es))[k * 6 + 3]'_ = y3 at q3
            generalize (entsC (struckN ⟨hv, fva, ha, fa⟩ k es))[k * 6 + 4]'_ = y4 at q4
            generalize (entsC (struckN ⟨hv, fva, ha, fa⟩ k es))[k * 6 + 5]'_ = y5 at q5
            have r0 := own_free HO6.out (k * 6)
            have r1 := own_free HO6.out (k * 6 + 1)
            have r2 := own_free HO6.out (k * 6 + 2)
            have r3 := own_free HO6.out (k * 6 + 3)
            have r4 := own_free HO6.out (k * 6 + 4)
            have r5 := own_free HO6.out (k * 6 + 5)
            go_wp2_with fail
            go_roundw
            case rel =>
              refine ⟨k + 1, by omega, by go_num, gb_set (gb_set (gb_set (gb_set (gb_set (gb_set hn6 _ _) _ _) _ _) _ _) _ _) _ _, ?_⟩
              rw [HNx.out, hst, entsC_set _ _ _ (by rw [struckN_len, HN.out]; exact hlt)]
              exact own_store (own_store (own_store (own_store (own_store (own_store HO6.out _ _) _ _) _ _) _ _) _ _) _ _
            case measure => simp [intOf]; omega
      · have hkn : k = n := by omega
        subst hkn
        have hfl : X = ⟨sets, ways, es.map (struckM ⟨hv, fva, ha, fa⟩)⟩ := by rw [← HX.out]; unfold flushM; rw [if_pos HEb.out]
        have hsn : struckN ⟨hv, fva, ha, fa⟩ k es = es.map (struckM ⟨hv, fva, ha, fa⟩) := by
          have hq : es.length = k := HN.out
          unfold struckN
          rw [← hq, List.take_length, List.drop_length, List.append_nil]
        obtain ⟨⟨d0, d1, d2⟩, e0, e1, e2⟩ := three_cells (heap_gb P3.out hn (by omega))
        go_wp2_with fail
        refine bodyPost_ret (v := .agg #[.int .i64 sets, .int .i64 ways, .slice (some ⟨g, 0, none⟩) k cp]) (by simp [results, Tryz.results206, go_sem, d0, d1, d2]) rfl ⟨⟨_, rfl, ?_⟩, bel3 (A4.grown hn (by have := A4.size; omega) (fun q hq => by cases hq; omega)) (by omega) _ _ _⟩
        rw [hfl]
        refine ⟨g, cp, by simp only [List.length_map]; rw [HN.out], ?_⟩
        simp only [List.length_map]
        rw [HN.out, ← hsn]
        exact own_low (own_gb HO.out (gb3 wr (w.heap.size + 1 + 1) _ _ _) (by omega)) (by omega)

end Go.Proofs.YthekickjjaleaacGreat
