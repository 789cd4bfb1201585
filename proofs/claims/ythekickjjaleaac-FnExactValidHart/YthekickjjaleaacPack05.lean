import Derived.Test.YthekickjjaleaacPack04
import Derived.Test.YthekickjjaleaacPack03
import Derived.Test.YthekickjjaleaacPack02
import Derived.Test.YthekickjjaleaacPack01
/- The specification's Lookup. -/
namespace Go.Proofs.Ythekickjjaleaac
open Go.RowKit
set_option linter.unusedVariables false
attribute [local go_sem ↓] Go.wp_at_zero Go.wp_at_succ

def hitB (va asid l : Int) (x : EntM) : Bool := x.level == l && fitsM x va asid

/-- The first entry of a level that fits, and its index. -/
def findL (va asid l : Int) : Nat → List EntM → Option (Nat × EntM)
  | _, [] => none
  | i, e :: r => if hitB va asid l e = true then some (i, e) else findL va asid l (i + 1) r

/-- Found, index, level, entry. -/
def hitOf (l : Int) : Option (Nat × EntM) → Option (Bool × Int × Int × Int)
  | none => none
  | some (i, e) => some (true, (i : Int), l, e.pte)

def hitM (t : TlbM) (va asid : Int) : Bool × Int × Int × Int :=
  if eitherM t = false then (false, 0, 0, 0)
  else ((hitOf 0 (findL va asid 0 0 t.es)).or ((hitOf 1 (findL va asid 1 0 t.es)).or (hitOf 2 (findL va asid 2 0 t.es)))).getD (false, 0, 0, 0)

theorem places_at (t : TlbM) (p : Bool) : ∀ (es : List EntM) (i : Nat), placesM t p i es = true → ∀ j x, es[j]? = some x → placeM t p (i + j) x = true
  | e :: r, i, h, 0, x, hx => by
    simp at hx
    subst hx
    simp only [placesM, Bool.and_eq_true] at h
    exact h.1
  | e :: r, i, h, j + 1, x, hx => by
    simp only [placesM, Bool.and_eq_true] at h
    have := places_at t p r (i + 1) h.2 j x (by simpa using hx)
    rw [show i + (j + 1) = i + 1 + j by omega]
    exact this

theorem place_level {t : TlbM} {p : Bool} {i : Nat} {x : EntM} (h : placeM t p i x = true) (hv : x.valid = true) : 0 ≤ x.level ∧ x.level ≤ 2 := by
  simp only [placeM, Bool.or_eq_true, Bool.and_eq_true] at h
  rcases h with h | h
  · rw [hv] at h; simp at h
  · have := h.1
    simp only [goodEntM, Bool.and_eq_true, decide_eq_true_eq] at this
    exact ⟨this.1.1.1.1.1.2, this.1.1.1.1.2⟩

theorem either_level {t : TlbM} (h : eitherM t = true) (j : Nat) (x : EntM) (hx : t.es[j]? = some x) (hv : x.valid = true) : 0 ≤ x.level ∧ x.level ≤ 2 := by
  simp only [eitherM, validM, Bool.or_eq_true, Bool.and_eq_true] at h
  rcases h with h | h
  · exact place_level (places_at t true t.es 0 h.2 j x hx) hv
  · exact place_level (places_at t false t.es 0 h.2 j x hx) hv

end Go.Proofs.Ythekickjjaleaac

/- Plain mathematics of chapter 4: insertion, flushing and the translation with caches, and what they keep. -/
namespace Go.Proofs.Ythekickjjaleaac
set_option linter.unusedVariables false

structure KM where
  i : TlbM
  d : TlbM
  p : TlbM

def tlb0 : TlbM := ⟨0, 0, []⟩
def k0M : KM := ⟨tlb0, tlb0, tlb0⟩
def goodKM (k : KM) : Bool := validM k.i false && validM k.d false && validM k.p true
def entM (level va satp pte : Int) : EntM := ⟨true, level, tagM va level, asidM satp, bitB pte 32, pte⟩

def fitsInM (t : TlbM) (e : EntM) : Bool := (validM t true && goodEntM e true) || (validM t false && goodEntM e false)
def firstM (t : TlbM) (e : EntM) : Nat := (e.tag % t.sets * t.ways).toNat
def wayM (t : TlbM) (e : EntM) (pick : Int) : Nat := (freeM t.es (firstM t e) 0 t.ways.toNat).getD (pick % t.ways).toNat
def insertM (t : TlbM) (e : EntM) (pick : Int) : TlbM :=
  if fitsInM t e = true ∧ 0 ≤ pick ∧ pick ≤ 255 then ⟨t.sets, t.ways, t.es.set (firstM t e + wayM t e pick) e⟩ else t

def ptrsM (va satp pick : Int) : List RecM → TlbM → TlbM
  | [], p => p
  | r :: rs, p => ptrsM va satp pick rs (if kindM r.2.2 r.1 = 1 then insertM p (entM r.1 va satp r.2.2) pick else p)

/-- The walk of a translation that found no leaf: from a kept pointer or from the root. -/
def resumeM (zs : List Int) (satp va : Int) (up : Bool × Int × Int × Int) : Int × Int × Int × List RecM :=
  if up.1 = true then fromM zs va (up.2.2.1 - 1).toNat (ppnM up.2.2.2) else walkM zs satp va

def putM (k : KM) (kind : Int) (t : TlbM) : KM := if kind = 0 then ⟨t, k.d, k.p⟩ else ⟨k.i, t, k.p⟩
def pickM (k : KM) (kind : Int) : TlbM := if kind = 0 then k.i else k.d

def tlbTransM (zs : List Int) (mode : Int) (sum mxr : Bool) (satp : Int) (k : KM) (kind va pick : Int) : (Int × Int) × KM :=
  if goodKM k = false ∨ kind < 0 ∨ 2 < kind ∨ mode < 0 ∨ 2 < mode ∨ pick < 0 ∨ 255 < pick then ((63, 0), k0M)
  else if onM mode satp = false then ((0, va), k)
  else if canonM va = false then ((pageM kind, 0), k)
  else if (hitM (pickM k kind) va (asidM satp)).1 = true then (leafM (hitM (pickM k kind) va (asidM satp)).2.2.2 (hitM (pickM k kind) va (asidM satp)).2.2.1 mode sum mxr kind va, k)
  else
    let r := resumeM zs satp va (hitM k.p va (asidM satp))
    let a := answerM r mode sum mxr kind va
    let k' : KM := ⟨k.i, k.d, ptrsM va satp pick r.2.2.2 k.p⟩
    (a, if a.1 = 0 then putM k' kind (insertM (pickM k kind) (entM r.2.1 va satp r.2.2.1) pick) else k')

theorem shape_of {t : TlbM} {p : Bool} (h : validM t p = true) : (t.sets = 1 ∨ t.sets = 2 ∨ t.sets = 4 ∨ t.sets = 8) ∧ 1 ≤ t.ways ∧ t.ways ≤ 4 ∧ (t.es.length : Int) = t.sets * t.ways := by
  simp only [validM, Bool.and_eq_true, shapeM, decide_eq_true_eq] at h
  exact h.1

theorem place_of {t : TlbM} {p : Bool} (h : validM t p = true) (j : Nat) (x : EntM) (hx : t.es[j]? = some x) : placeM t p j x = true := by
  simp only [validM, Bool.and_eq_true] at h
  have := places_at t p t.es 0 h.2 j x hx
  simpa using this

theorem valid_of {t : TlbM} {p : Bool} (h : shapeM t = true) (hp : ∀ (j : Nat) x, t.es[j]? = some x → placeM t p j x = true) : validM t p = true := by
  simp only [validM, Bool.and_eq_true]
  exact ⟨h, placesM_true t p t.es 0 (fun j x hx => by simpa using hp j x hx)⟩

theorem either_of {t : TlbM} {p : Bool} (h : validM t p = true) : eitherM t = true := by
  cases p <;> simp [eitherM, h]

theorem freeM_lt (es : List EntM) (first : Nat) : ∀ (left w r : Nat), freeM es first w left = some r → w ≤ r ∧ r < w + left
  | 0, w, r, h => by simp [freeM] at h
  | left + 1, w, r, h => by
    rw [freeM] at h
    split at h
    · cases h; omega
    · have := freeM_lt es first left (w + 1) r h
      omega

theorem wayM_lt (t : TlbM) (e : EntM) (pick : Int) (hw : 1 ≤ t.ways) (hw' : t.ways ≤ 4) : (wayM t e pick : Int) < t.ways := by
  unfold wayM
  cases h : freeM t.es (firstM t e) 0 t.ways.toNat with
  | none =>
    simp only [Option.getD_none]
    have h1 : 0 ≤ pick % t.ways := Int.emod_nonneg _ (by omega)
    have h2 : pick % t.ways < t.ways := Int.emod_lt_of_pos _ (by omega)
    omega
  | some r =>
    simp only [Option.getD_some]
    have := freeM_lt _ _ _ _ _ h
    omega

theorem first_at {t : TlbM} {e : EntM} (ht : 0 ≤ e.tag) (hs : t.sets = 1 ∨ t.sets = 2 ∨ t.sets = 4 ∨ t.sets = 8) (hw : 1 ≤ t.ways) : (firstM t e : Int) = e.tag % t.sets * t.ways := by
  unfold firstM
  have : 0 ≤ e.tag % t.sets := Int.emod_nonneg _ (by omega)
  have := Int.mul_nonneg this (by omega : 0 ≤ t.ways)
  omega

theorem idx_set {t : TlbM} {p : Bool} {e : EntM} {pick : Int} (hv : validM t p = true) (ht : 0 ≤ e.tag) : ((firstM t e + wayM t e pick : Nat) : Int) / t.ways = e.tag % t.sets := by
  obtain ⟨hs, hw, hw', hl⟩ := shape_of hv
  have h1 := first_at (e := e) ht hs hw
  have h2 := wayM_lt t e pick hw hw'
  rw [show ((firstM t e + wayM t e pick : Nat) : Int) = (wayM t e pick : Int) + (e.tag % t.sets) * t.ways by omega, Int.add_mul_ediv_right _ _ (by omega)]
  rw [Int.ediv_eq_zero_of_lt (by omega) h2]
  omega

theorem good_kind {e : EntM} {p : Bool} (h : goodEntM e p = true) : kindM e.pte e.level = wantM p := by
  simp only [goodEntM, Bool.and_eq_true, beq_iff_eq] at h
  exact h.2

/-- Insertion keeps a valid cache valid, in the sense of the entry. -/
theorem insert_valid (t : TlbM) (e : EntM) (pick : Int) (p : Bool) (hv : validM t p = true) (hg : goodEntM e p = true) (ht : 0 ≤ e.tag) : validM (insertM t e pick) p = true := by
  unfold insertM
  split
  · have hs := shape_of hv
    refine valid_of ?_ ?_
    · simp only [shapeM, decide_eq_true_eq, List.length_set]
      exact hs
    · intro j x hx
      simp only [List.getElem?_set] at hx
      split at hx
      · rename_i hj
        split at hx
        · cases hx
          subst hj
          simp only [placeM, Bool.or_eq_true, Bool.and_eq_true, beq_iff_eq]
          exact .inr ⟨hg, (idx_set (pick := pick) hv ht).symm⟩
        · cases hx
      · exact place_of hv j x hx
  · exact hv

end Go.Proofs.Ythekickjjaleaac

/- The laws' copies of entries and caches: toEntry, toEntryS, toTlb, and their sizes. -/
namespace Go.Proofs.Ythekickjjaleaac
open Go.RowKit
set_option linter.unusedVariables false
attribute [local go_sem ↓] Go.wp_at_zero Go.wp_at_succ

theorem szEntryS_any (a : Option Addr) (n cap : Nat) (left : Int) (w : World) (hn : (n : Int) ≤ 9223372036854775807) (h0 : 0 ≤ left) (h1 : left ≤ 1048576) :
    Calls Try.prog 66 #[.slice a n cap, .int .i64 left] w fun e w' => e = .returned (.int .i64 (if left < n then -1 else left - n)) ∧ w' = w := by
  by_cases h : left < n
  · rw [if_pos h]
    go_enter Try.func66, Try.ntmps66
    go_wp2_with fail
    go_ret
    exact ⟨rfl, rfl⟩
  · rw [if_neg h]
    go_enter Try.func66, Try.ntmps66
    go_wp2_with fail
    go_ret
    exact ⟨rfl, rfl⟩

set_option maxHeartbeats 400000 in
theorem toEntry_any (v : Bool) (l t a : Int) (g : Bool) (p : Int) (w : World) :
    Calls Try.prog 79 #[.agg #[.bool v, .int .i64 l, .int .u64 t, .int .u64 a, .bool g, .int .u64 p]] w fun e w' => e = .returned (.agg #[.bool v, .int .i64 l, .int .u64 t, .int .u64 a, .bool g, .int .u64 p]) ∧ Below w.heap.size w w' := by
  go_enter Try.func79, Try.ntmps79
  go_wp2_with fail
  exact bodyPost_ret (v := .agg #[.bool v, .int .i64 l, .int .u64 t, .int .u64 a, .bool g, .int .u64 p]) (by simp [results, Try.results79, go_sem]) rfl ⟨rfl, (((Below.refl _ _).alloc (Nat.le_refl _) _).alloc (by simp) _).alloc (by simp; omega) _⟩

theorem to_step (es : List EntM) (ys : List Value) (k n : Nat) (x : EntM) (hx : es[k]? = some x) (hy : ys.length = n * 6) (hk : k < n) (hn : es.length = n) (h : ∀ t, t < k * 6 → ys[t]? = (entsC es)[t]?) :
    ∀ t, t < (k + 1) * 6 → ((((((ys.set (k * 6) (.bool x.valid)).set (k * 6 + 1) (.int .i64 x.level)).set (k * 6 + 2) (.int .u64 x.tag)).set (k * 6 + 3) (.int .u64 x.asid)).set (k * 6 + 4) (.bool x.glob)).set (k * 6 + 5) (.int .u64 x.pte))[t]? = (entsC es)[t]? := by
  intro t ht
  obtain ⟨hk', rfl⟩ := List.getElem?_eq_some_iff.1 hx
  have hj := fun j hj => entsC_at es k j hk' hj
  by_cases h0 : t < k * 6
  · simp only [List.getElem?_set]
    rw [if_neg (by omega), if_neg (by omega), if_neg (by omega), if_neg (by omega), if_neg (by omega), if_neg (by omega)]
    exact h t h0
  · rcases (show t = k * 6 ∨ t = k * 6 + 1 ∨ t = k * 6 + 2 ∨ t = k * 6 + 3 ∨ t = k * 6 + 4 ∨ t = k * 6 + 5 by omega) with rfl | rfl | rfl | rfl | rfl | rfl
    · have h6 : (entsC es)[k * 6]? = (entC es[k])[0]? := hj 0 (by omega)
      rw [h6, List.getElem?_set_ne (by omega), List.getElem?_set_ne (by omega), List.getElem?_set_ne (by omega), List.getElem?_set_ne (by omega), List.getElem?_set_ne (by omega), List.getElem?_set_self (by omega)]
      rfl
    · rw [hj 1 (by omega), List.getElem?_set_ne (by omega), List.getElem?_set_ne (by omega), List.getElem?_set_ne (by omega), List.getElem?_set_ne (by omega), List.getElem?_set_self (by simp; omega)]
      rfl
    · rw [hj 2 (by omega), List.getElem?_set_ne (by omega), List.getElem?_set_ne (by omega), List.getElem?_set_ne (by omega), List.getElem?_set_self (by simp; omega)]
      rfl
    · rw [hj 3 (by omega), List.getElem?_set_ne (by omega), List.getElem?_set_ne (by omega), List.getElem?_set_self (by simp; omega)]
      rfl
    · rw [hj 4 (by omega), List.getElem?_set_ne (by omega), List.getElem?_set_self (by simp; omega)]
      rfl
    · rw [hj 5 (by omega), List.getElem?_set_self (by simp; omega)]
      rfl

set_option maxRecDepth 20000 in
set_option maxHeartbeats 1600000 in
theorem toEntryS_any (a : Option Addr) (n cap : Nat) (es : List EntM) (w : World) (h : RowC w a n 6 (entsC es)) (hn : es.length = n) (hl : n ≤ 1048576) :
    Calls Try.prog 68 #[.slice a n cap] w fun e w' =>
      e = .returned (.slice (some ⟨w.heap.size, 0, none⟩) n n) ∧ w'.ownsRow w.heap.size 91 6 (.slice (some ⟨w.heap.size, 0, none⟩) n n) n (entsC es) ∧ Below w.heap.size w w' := by
  obtain ⟨i0, hi, hz0, hz1, hz2⟩ := info_parts Try.infoEnt
  have HR : Hid (RowC w a n 6 (entsC es)) := h
  clear h
  go_enter Try.func68, Try.ntmps68
  go_wp2_with (at_make; refine wpList_make_full _ rfl _ _ 25 rfl w.heap.size 91 i0 (.agg #[.bool false, .int .i64 0, .int .u64 0, .int .u64 0, .bool false, .int .u64 0]) 6 Try.underlying25 hi hz0 hz1 _ _ _ _ n rfl rfl rfl rfl ?b2 ?b3 (Nat.le_refl _) ?_)
  case b2 => rw [hz2]; omega
  case b3 => unfold maxLen; omega
  intro w0 hown0 hgrow0
  have hn0 : Below w.heap.size w w0 := (Below.refl _ _).grown hgrow0 (Nat.le_refl _) (fun k h => by cases h)
  have HO0 : Hid _ := hown0
  clear hown0 hgrow0
  go_wp2_with fail
  go_loopw [4] (fun i wr => ∃ (k : Nat) (ys : List Value), k ≤ n ∧ i = .int .i64 k ∧ (∀ t, t < k * 6 → ys[t]? = (entsC es)[t]?) ∧ wr.ownsRow w.heap.size 91 6 (.slice (some ⟨w.heap.size, 0, none⟩) n n) n ys ∧ Below w.heap.size w wr) (fun i _ => n - (intOf i).toNat)
  case atStart => exact ⟨0, _, Nat.zero_le _, rfl, fun t ht => absurd ht (by omega), HO0.out, hn0⟩
  case round =>
    obtain ⟨k, ys, hk, rfl, hyz, hO, hb⟩ := hrel
    have HO : Hid (wr.ownsRow w.heap.size 91 6 (.slice (some ⟨w.heap.size, 0, none⟩) n n) n ys) := hO
    have HZ : Hid (∀ t, t < k * 6 → ys[t]? = (entsC es)[t]?) := hyz
    have hyl : ys.length = n * 6 := hO.1
    clear hO hyz
    by_cases hlt : k < n
    · obtain ⟨x, hx⟩ : ∃ x, es[k]? = some x := ⟨_, List.getElem?_eq_getElem (by omega)⟩
      obtain ⟨b, off, rfl, hbb⟩ : ∃ b off, a = some ⟨b, off, none⟩ ∧ b < w.heap.size := by
        rcases HR.out.2 with h | ⟨b, off, h, h2, _⟩
        · omega
        · exact ⟨b, off, h, h2⟩
      have CE : ∀ j u, j < 6 → (entC x)[j]? = some u → wr.cell? ⟨b, off + (k * 6 + j), none⟩ = some u := fun j u hj hu =>
        Below.cell2 hb (row_cell HR.out hn k x hx j u hj hu) hbb
      obtain ⟨vv, lv, tg, asd, gl, pt⟩ := x
      have g0 : wr.cell? ⟨b, off + k * 6, none⟩ = some (.bool vv) := CE 0 _ (by omega) rfl
      have g1 : wr.cell? ⟨b, off + k * 6 + 1, none⟩ = some (.int .i64 lv) := CE 1 _ (by omega) rfl
      have g2 : wr.cell? ⟨b, off + k * 6 + 2, none⟩ = some (.int .u64 tg) := CE 2 _ (by omega) rfl
      have g3 : wr.cell? ⟨b, off + k * 6 + 3, none⟩ = some (.int .u64 asd) := CE 3 _ (by omega) rfl
      have g4 : wr.cell? ⟨b, off + k * 6 + 4, none⟩ = some (.bool gl) := CE 4 _ (by omega) rfl
      have g5 : wr.cell? ⟨b, off + k * 6 + 5, none⟩ = some (.int .u64 pt) := CE 5 _ (by omega) rfl
      have HX : Hid (es[k]? = some ⟨vv, lv, tg, asd, gl, pt⟩) := hx
      clear CE hx
      go_wp2_with fail
      refine (toEntry_any vv lv tg asd gl pt wr).mono ?_
      rintro e v2 ⟨rfl, n2⟩
      have O2 : Hid (v2.ownsRow w.heap.size 91 6 (.slice (some ⟨w.heap.size, 0, none⟩) n n) n ys) := own_below HO.out n2
      have A2 := Below.step hb n2 (Nat.le_refl _)
      clear g0 g1 g2 g3 g4 g5 HO hb n2
      have y0 := own_cell O2.out (k * 6) _ (List.getElem?_eq_getElem (by omega))
      have y1 := own_cell O2.out (k * 6 + 1) _ (List.getElem?_eq_getElem (by omega))
      have y2 := own_cell O2.out (k * 6 + 2) _ (List.getElem?_eq_getElem (by omega))
      have y3 := own_cell O2.out (k * 6 + 3) _ (List.getElem?_eq_getElem (by omega))
      have y4 := own_cell O2.out (k * 6 + 4) _ (List.getElem?_eq_getElem (by omega))
      have y5 := own_cell O2.out (k * 6 + 5) _ (List.getElem?_eq_getElem (by omega))
      generalize ys[k * 6]'_ = z0 at y0
      generalize ys[k * 6 + 1]'_ = z1 at y1
      generalize ys[k * 6 + 2]'_ = z2 at y2
      generalize ys[k * 6 + 3]'_ = z3 at y3
      generalize ys[k * 6 + 4]'_ = z4 at y4
      generalize ys[k * 6 + 5]'_ = z5 at y5
      have r0 := own_free O2.out (k * 6)
      have r1 := own_free O2.out (k * 6 + 1)
      have r2 := own_free O2.out (k * 6 + 2)
      have r3 := own_free O2.out (k * 6 + 3)
      have r4 := own_free O2.out (k * 6 + 4)
      have r5 := own_free O2.out (k * 6 + 5)
      go_wp2_with fail
      go_roundw
      case rel =>
        refine ⟨k + 1, _, by omega, by go_num, to_step es ys k n _ HX.out hyl hlt hn HZ.out, own_store (own_store (own_store (own_store (own_store (own_store O2.out _ _) _ _) _ _) _ _) _ _) _ _, A2.grown (gb_set (gb_set (gb_set (gb_set (gb_set (gb_set (gb_refl v2 (some w.heap.size)) _ _) _ _) _ _) _ _) _ _) _ _) A2.size (fun q hq => by cases hq; omega)⟩
      case measure => simp [intOf]; omega
    · have hyy : ys = entsC es := by
        apply List.ext_getElem?
        intro t
        by_cases ht : t < n * 6
        · exact HZ.out t (by omega)
        · rw [List.getElem?_eq_none (by omega), List.getElem?_eq_none (by rw [entsC_len]; omega)]
      rw [hyy] at HO
      clear HZ hyl hyy
      go_wp2_with fail
      go_ret
      exact ⟨rfl, HO.out, hb⟩

set_option maxRecDepth 20000 in
set_option maxHeartbeats 800000 in
theorem toTlb_any (sets ways : Int) (a : Option Addr) (n cap : Nat) (es : List EntM) (w : World) (h : RowC w a n 6 (entsC es)) (hn : es.length = n) (hl : n ≤ 1048576) :
    Calls Try.prog 59 #[.agg #[.int .i64 sets, .int .i64 ways, .slice a n cap]] w fun e w' => (∃ x, e = .returned x ∧ TlbOwn w.heap.size w' x ⟨sets, ways, es⟩) ∧ Below w.heap.size w w' := by
  have n1 := (((Below.refl w.heap.size w).alloc (Nat.le_refl _) (Obj.cells #[.int .i64 sets, .int .i64 ways, .slice a n cap] 44)).alloc (by simp) (Obj.cells #[.int .i64 0, .int .i64 0, .slice none 0 0] 27)).alloc (by simp; omega) (Obj.cells #[.int .i64 sets, .int .i64 ways, .slice none 0 0] 27)
  have HR : Hid (RowC (((w.alloc (Obj.cells #[.int .i64 sets, .int .i64 ways, .slice a n cap] 44)).alloc (Obj.cells #[.int .i64 0, .int .i64 0, .slice none 0 0] 27)).alloc (Obj.cells #[.int .i64 sets, .int .i64 ways, .slice none 0 0] 27)) a n 6 (entsC es)) := h.keep n1
  have H2 : Hid ((((w.alloc (Obj.cells #[.int .i64 sets, .int .i64 ways, .slice a n cap] 44)).alloc (Obj.cells #[.int .i64 0, .int .i64 0, .slice none 0 0] 27)).alloc (Obj.cells #[.int .i64 sets, .int .i64 ways, .slice none 0 0] 27)).heap[w.heap.size + 1]? = some (.cells #[.int .i64 0, .int .i64 0, .slice none 0 0] 27 (0, 0))) := by
    show _ = _
    rw [heap_alloc_old _ _ (by simp)]
    have := heap_alloc_new (w.alloc (Obj.cells #[.int .i64 sets, .int .i64 ways, .slice a n cap] 44)) (Obj.cells #[.int .i64 0, .int .i64 0, .slice none 0 0] 27)
    simp only [World.size_alloc] at this
    exact this
  have H3 : Hid ((((w.alloc (Obj.cells #[.int .i64 sets, .int .i64 ways, .slice a n cap] 44)).alloc (Obj.cells #[.int .i64 0, .int .i64 0, .slice none 0 0] 27)).alloc (Obj.cells #[.int .i64 sets, .int .i64 ways, .slice none 0 0] 27)).heap[w.heap.size + 1 + 1]? = some (.cells #[.int .i64 sets, .int .i64 ways, .slice none 0 0] 27 (0, 0))) := by
    have := heap_alloc_new ((w.alloc (Obj.cells #[.int .i64 sets, .int .i64 ways, .slice a n cap] 44)).alloc (Obj.cells #[.int .i64 0, .int .i64 0, .slice none 0 0] 27)) (Obj.cells #[.int .i64 sets, .int .i64 ways, .slice none 0 0] 27)
    simp only [World.size_alloc] at this
    exact this
  have l1 : w.heap.size + 1 + 1 < (((w.alloc (Obj.cells #[.int .i64 sets, .int .i64 ways, .slice a n cap] 44)).alloc (Obj.cells #[.int .i64 0, .int .i64 0, .slice none 0 0] 27)).alloc (Obj.cells #[.int .i64 sets, .int .i64 ways, .slice none 0 0] 27)).heap.size := by simp
  clear h
  go_enter Try.func59, Try.ntmps59
  go_wp2_with fail
  generalize (((w.alloc (Obj.cells #[.int .i64 sets, .int .i64 ways, .slice a n cap] 44)).alloc (Obj.cells #[.int .i64 0, .int .i64 0, .slice none 0 0] 27)).alloc (Obj.cells #[.int .i64 sets, .int .i64 ways, .slice none 0 0] 27)) = v1 at n1 HR H2 H3 l1 ⊢
  refine (toEntryS_any a n cap es v1 HR.out hn hl).mono ?_
  rintro e v2 ⟨rfl, o2, n2⟩
  have O2 : Hid (v2.ownsRow v1.heap.size 91 6 (.slice (some ⟨v1.heap.size, 0, none⟩) n n) n (entsC es)) := o2
  have A2 := Below.step n1 n2 (Nat.le_refl _)
  have K2 := hid_keep H2 n2
  have K3 := hid_keep H3 n2
  obtain ⟨⟨d0, d1, d2⟩, e0, e1, e2⟩ := three_cells K2.out
  obtain ⟨⟨p0, p1, p2⟩, f0, f1, f2⟩ := three_cells K3.out
  clear o2 n1 n2 HR H2 H3
  go_wp2_with fail
  refine bodyPost_ret (v := .agg #[.int .i64 sets, .int .i64 ways, .slice (some ⟨v1.heap.size, 0, none⟩) n n]) (by simp [results, Try.results59, go_sem, d0, d1, d2]) rfl ⟨⟨_, rfl, v1.heap.size, n, by simp only; rw [hn], ?_⟩, bel3 (A2.setCell (p := ⟨w.heap.size + 1 + 1, 2, none⟩) (by show w.heap.size ≤ w.heap.size + 1 + 1; omega) _) (by omega) _ _ _⟩
  simp only
  rw [hn]
  exact own_low (own_gb (own_gb O2.out (gb_set (gb_refl v2 (some (w.heap.size + 1 + 1))) 2 _) l1) (gb3 _ (w.heap.size + 1) _ _ _) (by omega)) (by omega)

theorem szTlb_any (sets ways : Int) (a : Option Addr) (n cap : Nat) (left : Int) (w : World) (hn : (n : Int) ≤ 9223372036854775807) (h0 : 0 ≤ left) (h1 : left ≤ 1048576) :
    Calls Try.prog 57 #[.agg #[.int .i64 sets, .int .i64 ways, .slice a n cap], .int .i64 left] w fun e w' => e = .returned (.int .i64 (if left < n then -1 else left - n)) ∧ Below w.heap.size w w' := by
  have n1 := (Below.refl w.heap.size w).alloc (Nat.le_refl _) (Obj.cells #[.int .i64 sets, .int .i64 ways, .slice a n cap] 44)
  by_cases h : left < n
  · rw [if_pos h]
    have HS : Hid (∀ w, Calls Try.prog 66 #[.slice a n cap, .int .i64 left] w fun e w' => e = .returned (.int .i64 (-1)) ∧ w' = w) := fun w => by
      have := szEntryS_any a n cap left w hn h0 h1
      rw [if_pos h] at this
      exact this
    clear h
    go_enter Try.func57, Try.ntmps57
    go_wp2_with (go_at_call 66; refine (HS.out _).mono ?_; rintro e w' ⟨rfl, rfl⟩)
    go_ret
    exact ⟨rfl, n1⟩
  · rw [if_neg h]
    have HS : Hid (∀ w, Calls Try.prog 66 #[.slice a n cap, .int .i64 left] w fun e w' => e = .returned (.int .i64 (left - n)) ∧ w' = w) := fun w => by
      have := szEntryS_any a n cap left w hn h0 h1
      rw [if_neg h] at this
      exact this
    have h' : decide (left - (n : Int) < 0) = false := by rw [decide_eq_false_iff_not]; omega
    clear h
    go_enter Try.func57, Try.ntmps57
    go_wp2_with (go_at_call 66; refine (HS.out _).mono ?_; rintro e w' ⟨rfl, rfl⟩)
    go_ret
    exact ⟨rfl, n1⟩

end Go.Proofs.Ythekickjjaleaac

/- The laws' equality of entries and caches: eqEntry, eqEntryS, eqTlb, eqHit. -/
namespace Go.Proofs.Ythekickjjaleaac
open Go.RowKit
set_option linter.unusedVariables false
attribute [local go_sem ↓] Go.wp_at_zero Go.wp_at_succ

set_option maxHeartbeats 800000 in
theorem eqEntry_same (v : Bool) (l t a : Int) (g : Bool) (p : Int) (w : World) :
    Calls Try.prog 83 #[.agg #[.bool v, .int .i64 l, .int .u64 t, .int .u64 a, .bool g, .int .u64 p], .agg #[.bool v, .int .i64 l, .int .u64 t, .int .u64 a, .bool g, .int .u64 p]] w fun e w' => e = .returned (.bool true) ∧ Below w.heap.size w w' := by
  cases v <;> cases g
  all_goals
    go_enter Try.func83, Try.ntmps83
    go_wp2_with fail
    go_ret
    exact ⟨rfl, ((Below.refl _ _).alloc (Nat.le_refl _) _).alloc (by simp) _⟩

set_option maxRecDepth 20000 in
set_option maxHeartbeats 1600000 in
theorem eqEntryS_same (a b : Option Addr) (n ca cb : Nat) (es : List EntM) (w : World) (h : RowC w a n 6 (entsC es)) (h' : RowC w b n 6 (entsC es)) (hn : es.length = n) (hl : n ≤ 1048576) :
    Calls Try.prog 74 #[.slice a n ca, .slice b n cb] w fun e w' => e = .returned (.bool true) ∧ Below w.heap.size w w' := by
  have HR : Hid (RowC w a n 6 (entsC es)) := h
  have HR' : Hid (RowC w b n 6 (entsC es)) := h'
  clear h h'
  go_enter Try.func74, Try.ntmps74
  go_wp2_with fail
  go_loopw [5] (fun i wr => ∃ (k : Nat), k ≤ n ∧ i = .int .i64 k ∧ Below w.heap.size w wr) (fun i _ => n - (intOf i).toNat)
  case atStart => exact ⟨0, Nat.zero_le _, rfl, Below.refl _ _⟩
  case round =>
    obtain ⟨k, hk, rfl, hb⟩ := hrel
    by_cases hlt : k < n
    · obtain ⟨x, hx⟩ : ∃ x : EntM, es[k]? = some x := ⟨_, List.getElem?_eq_getElem (by omega)⟩
      have R1 := RowC.keep HR.out hb
      have R2 := RowC.keep HR'.out hb
      obtain ⟨b1, o1, rfl, lb1⟩ : ∃ b1 o1, a = some ⟨b1, o1, none⟩ ∧ b1 < wr.heap.size := by
        rcases R1.2 with h | ⟨b1, o1, h, h2, _⟩
        · omega
        · exact ⟨b1, o1, h, h2⟩
      obtain ⟨b2, o2, rfl, lb2⟩ : ∃ b2 o2, b = some ⟨b2, o2, none⟩ ∧ b2 < wr.heap.size := by
        rcases R2.2 with h | ⟨b2, o2, h, h2, _⟩
        · omega
        · exact ⟨b2, o2, h, h2⟩
      obtain ⟨vv, lv, tg, asd, gl, pt⟩ := x
      have C1 := fun j u hj hu => lies_cell (row_cell R1 hn k _ hx j u hj hu) lb1
      have C2 := fun j u hj hu => lies_cell (row_cell R2 hn k _ hx j u hj hu) lb2
      have g0 : ∀ u : Lies wr, u.w.cell? ⟨b1, o1 + k * 6, none⟩ = some (.bool vv) := C1 0 _ (by omega) rfl
      have g1 : ∀ u : Lies wr, u.w.cell? ⟨b1, o1 + k * 6 + 1, none⟩ = some (.int .i64 lv) := C1 1 _ (by omega) rfl
      have g2 : ∀ u : Lies wr, u.w.cell? ⟨b1, o1 + k * 6 + 2, none⟩ = some (.int .u64 tg) := C1 2 _ (by omega) rfl
      have g3 : ∀ u : Lies wr, u.w.cell? ⟨b1, o1 + k * 6 + 3, none⟩ = some (.int .u64 asd) := C1 3 _ (by omega) rfl
      have g4 : ∀ u : Lies wr, u.w.cell? ⟨b1, o1 + k * 6 + 4, none⟩ = some (.bool gl) := C1 4 _ (by omega) rfl
      have g5 : ∀ u : Lies wr, u.w.cell? ⟨b1, o1 + k * 6 + 5, none⟩ = some (.int .u64 pt) := C1 5 _ (by omega) rfl
      have f0 : ∀ u : Lies wr, u.w.cell? ⟨b2, o2 + k * 6, none⟩ = some (.bool vv) := C2 0 _ (by omega) rfl
      have f1 : ∀ u : Lies wr, u.w.cell? ⟨b2, o2 + k * 6 + 1, none⟩ = some (.int .i64 lv) := C2 1 _ (by omega) rfl
      have f2 : ∀ u : Lies wr, u.w.cell? ⟨b2, o2 + k * 6 + 2, none⟩ = some (.int .u64 tg) := C2 2 _ (by omega) rfl
      have f3 : ∀ u : Lies wr, u.w.cell? ⟨b2, o2 + k * 6 + 3, none⟩ = some (.int .u64 asd) := C2 3 _ (by omega) rfl
      have f4 : ∀ u : Lies wr, u.w.cell? ⟨b2, o2 + k * 6 + 4, none⟩ = some (.bool gl) := C2 4 _ (by omega) rfl
      have f5 : ∀ u : Lies wr, u.w.cell? ⟨b2, o2 + k * 6 + 5, none⟩ = some (.int .u64 pt) := C2 5 _ (by omega) rfl
      have ne := lies_some wr
      clear C1 C2 R1 R2 hx
      go_wp2_with fail
      refine wp_region_lies (by kernel_rfl) (by kernel_rfl) ?_
      repeat (go_big_quiet_step ((go_at_call 83; exact lies_quiet _ (eqEntry_same _ _ _ _ _ _ _))))
      refine wpQuiet_nil ?_
      rintro _ ⟨u, rfl⟩
      have hb2 := Below.step hb u.h (Nat.le_refl _)
      generalize u.w = v2 at hb2 ⊢
      clear g0 g1 g2 g3 g4 g5 f0 f1 f2 f3 f4 f5 hb
      go_wp2_with fail
      go_roundw
      case rel => exact ⟨k + 1, by omega, by go_num, hb2⟩
      case measure => simp [intOf]; omega
    · clear HR HR'
      go_wp2_with fail
      go_ret
      exact ⟨rfl, hb⟩

set_option maxHeartbeats 800000 in
theorem eqTlb_same (sets ways : Int) (a b : Option Addr) (n ca cb : Nat) (es : List EntM) (w : World) (h : RowC w a n 6 (entsC es)) (h' : RowC w b n 6 (entsC es)) (hn : es.length = n) (hl : n ≤ 1048576) :
    Calls Try.prog 63 #[.agg #[.int .i64 sets, .int .i64 ways, .slice a n ca], .agg #[.int .i64 sets, .int .i64 ways, .slice b n cb]] w fun e w' => e = .returned (.bool true) ∧ Below w.heap.size w w' := by
  have n1 := ((Below.refl w.heap.size w).alloc (Nat.le_refl _) (Obj.cells #[.int .i64 sets, .int .i64 ways, .slice a n ca] 27)).alloc (by simp) (Obj.cells #[.int .i64 sets, .int .i64 ways, .slice b n cb] 27)
  have HR : Hid (RowC _ a n 6 (entsC es)) := RowC.keep h n1
  have HR' : Hid (RowC _ b n 6 (entsC es)) := RowC.keep h' n1
  clear h h'
  go_enter Try.func63, Try.ntmps63
  go_wp2_with fail
  refine (eqEntryS_same a b n ca cb es _ HR.out HR'.out hn hl).mono ?_
  rintro e v2 ⟨rfl, n2⟩
  have n12 := Below.step n1 n2 (Nat.le_refl _)
  clear n1 n2 HR HR'
  go_wp2_with fail
  go_ret
  exact ⟨rfl, n12⟩

end Go.Proofs.Ythekickjjaleaac
