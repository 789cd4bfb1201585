/- The specification's Lookup. -/
import Derived.Test.YthekickjjaleaabSpec4l
namespace Go.Proofs.Ythekickjjaleaab
open Go.RowKit
set_option linter.unusedVariables false
attribute [local go_sem ↓] Go.wp_at_zero Go.wp_at_succ

def hitB (va asid l : Int) (x : EntM) : Bool := x.level == l && fitsM x va asid

/-- The first entry of a level that fits, and its index. -/
def findL (va asid l : Int) : Nat → List EntM → Option (Nat × EntM)
  | _, [] => none
  | i, e :: r => if hitB va asid l e = true then some (i, e) else findL va asid l (i + 1) r

/-- Found, index, level, entry. -/
def hitOf (l : Int) : Option (Nat × EntM) → Option (Bool × Int × Int × Int)
  | none => none
  | some (i, e) => some (true, (i : Int), l, e.pte)

def hitM (t : TlbM) (va asid : Int) : Bool × Int × Int × Int :=
  if eitherM t = false then (false, 0, 0, 0)
  else ((hitOf 0 (findL va asid 0 0 t.es)).or ((hitOf 1 (findL va asid 1 0 t.es)).or (hitOf 2 (findL va asid 2 0 t.es)))).getD (false, 0, 0, 0)

theorem findL_none (va asid l : Int) : ∀ (es : List EntM) (i : Nat), (∀ (j : Nat) x, es[j]? = some x → hitB va asid l x = false) → findL va asid l i es = none
  | [], i, h => rfl
  | e :: r, i, h => by
    rw [findL, if_neg (by rw [h 0 e rfl]; simp)]
    exact findL_none va asid l r (i + 1) (fun j x hx => h (j + 1) x (by simpa using hx))

theorem findL_some (va asid l : Int) : ∀ (es : List EntM) (i k : Nat) (x : EntM), es[k]? = some x → hitB va asid l x = true → (∀ j y, j < k → es[j]? = some y → hitB va asid l y = false) → findL va asid l i es = some (i + k, x)
  | e :: r, i, 0, x, hx, hh, h => by
    simp at hx
    subst hx
    rw [findL, if_pos hh]
    rfl
  | e :: r, i, k + 1, x, hx, hh, h => by
    rw [findL, if_neg (by rw [h 0 e (by omega) rfl]; simp), findL_some va asid l r (i + 1) k x (by simpa using hx) hh (fun j y hj hy => h (j + 1) y (by omega) (by simpa using hy))]
    congr 2; omega

theorem places_at (t : TlbM) (p : Bool) : ∀ (es : List EntM) (i : Nat), placesM t p i es = true → ∀ j x, es[j]? = some x → placeM t p (i + j) x = true
  | e :: r, i, h, 0, x, hx => by
    simp at hx
    subst hx
    simp only [placesM, Bool.and_eq_true] at h
    exact h.1
  | e :: r, i, h, j + 1, x, hx => by
    simp only [placesM, Bool.and_eq_true] at h
    have := places_at t p r (i + 1) h.2 j x (by simpa using hx)
    rw [show i + (j + 1) = i + 1 + j by omega]
    exact this

theorem place_level {t : TlbM} {p : Bool} {i : Nat} {x : EntM} (h : placeM t p i x = true) (hv : x.valid = true) : 0 ≤ x.level ∧ x.level ≤ 2 := by
  simp only [placeM, Bool.or_eq_true, Bool.and_eq_true] at h
  rcases h with h | h
  · rw [hv] at h; simp at h
  · have := h.1
    simp only [goodEntM, Bool.and_eq_true, decide_eq_true_eq] at this
    exact ⟨this.1.1.1.1.1.2, this.1.1.1.1.2⟩

theorem either_level {t : TlbM} (h : eitherM t = true) (j : Nat) (x : EntM) (hx : t.es[j]? = some x) (hv : x.valid = true) : 0 ≤ x.level ∧ x.level ≤ 2 := by
  simp only [eitherM, validM, Bool.or_eq_true, Bool.and_eq_true] at h
  rcases h with h | h
  · exact place_level (places_at t true t.es 0 h.2 j x hx) hv
  · exact place_level (places_at t false t.es 0 h.2 j x hx) hv

theorem hitM_at (t : TlbM) (va asid : Int) (l k : Nat) (x : EntM) (he : eitherM t = true) (hl : l ≤ 2) (hp : ∀ l' : Nat, l' < l → findL va asid l' 0 t.es = none) (hf : findL va asid l 0 t.es = some (k, x)) :
    hitM t va asid = (true, (k : Int), (l : Int), x.pte) := by
  unfold hitM
  rw [if_neg (by rw [he]; simp)]
  rcases (show l = 0 ∨ l = 1 ∨ l = 2 by omega) with rfl | rfl | rfl
  · have hf' : findL va asid 0 0 t.es = some (k, x) := hf
    rw [hf']
    rfl
  · have h0 : findL va asid 0 0 t.es = none := hp 0 (by omega)
    have hf' : findL va asid 1 0 t.es = some (k, x) := hf
    rw [h0, hf']
    rfl
  · have h0 : findL va asid 0 0 t.es = none := hp 0 (by omega)
    have h1 : findL va asid 1 0 t.es = none := hp 1 (by omega)
    have hf' : findL va asid 2 0 t.es = some (k, x) := hf
    rw [h0, h1, hf']
    rfl

theorem hitM_none (t : TlbM) (va asid : Int) (he : eitherM t = true) (hp : ∀ l' : Nat, l' < 3 → findL va asid l' 0 t.es = none) : hitM t va asid = (false, 0, 0, 0) := by
  have h0 : findL va asid 0 0 t.es = none := hp 0 (by omega)
  have h1 : findL va asid 1 0 t.es = none := hp 1 (by omega)
  have h2 : findL va asid 2 0 t.es = none := hp 2 (by omega)
  unfold hitM
  rw [if_neg (by rw [he]; simp), h0, h1, h2]
  rfl

set_option maxHeartbeats 6400000 in
theorem specLookup_any (v : Value) (t : TlbM) (va asid : Int) (w : World) (h : TlbAt w v t) (hv0 : 0 ≤ va) (hv1 : va ≤ 18446744073709551615) :
    Calls Try.prog 46 #[v, .int .u64 va, .int .u64 asid] w fun e w' =>
      e = .returned (.agg #[.bool (hitM t va asid).1, .int .i64 (hitM t va asid).2.1, .int .i64 (hitM t va asid).2.2.1, .int .u64 (hitM t va asid).2.2.2]) ∧ Below w.heap.size w w' := by
  have HT : Hid (TlbAt w v t) := h
  obtain ⟨a, cap, rfl, hr, he, hs, hw, hl, hlc, hcm, hnil, hsp⟩ := h
  obtain ⟨⟨x1, x2, x3, x4⟩, hX⟩ : ∃ X, hitM t va asid = X := ⟨_, rfl⟩
  rw [hX]
  simp only
  have HX : Hid (hitM t va asid = (x1, x2, x3, x4)) := hX
  obtain ⟨eb, heb⟩ : ∃ eb, eitherM t = eb := ⟨_, rfl⟩
  have HEb : Hid (eitherM t = eb) := heb
  obtain ⟨n, hn⟩ : ∃ n, t.es.length = n := ⟨_, rfl⟩
  have HN : Hid (t.es.length = n) := hn
  rw [hn] at hr hl hlc hnil ⊢
  have HR : Hid (RowC w a n 6 (entsC t.es)) := hr
  have HE : Hid (∀ e ∈ t.es, entOk e) := he
  have n1 := ((Below.refl w.heap.size w).alloc (Nat.le_refl _) (Obj.cells #[.int .i64 t.sets, .int .i64 t.ways, .slice a n cap] 63)).alloc (by simp) (Obj.cells #[.bool false, .int .i64 0, .int .i64 0, .int .u64 0] 68)
  have H1 : Hid (((w.alloc (Obj.cells #[.int .i64 t.sets, .int .i64 t.ways, .slice a n cap] 63)).alloc (Obj.cells #[.bool false, .int .i64 0, .int .i64 0, .int .u64 0] 68)).heap[w.heap.size + 1]? = some (.cells #[.bool false, .int .i64 0, .int .i64 0, .int .u64 0] 68 (0, 0))) := by
    have := heap_alloc_new (w.alloc (Obj.cells #[.int .i64 t.sets, .int .i64 t.ways, .slice a n cap] 63)) (Obj.cells #[.bool false, .int .i64 0, .int .i64 0, .int .u64 0] 68)
    simp only [World.size_alloc] at this
    exact this
  have H2 : Hid (((w.alloc (Obj.cells #[.int .i64 t.sets, .int .i64 t.ways, .slice a n cap] 63)).alloc (Obj.cells #[.bool false, .int .i64 0, .int .i64 0, .int .u64 0] 68)).cell? ⟨w.heap.size, 2, none⟩ = some (.slice a n cap)) := by
    show _ = _
    simp
  have l1 : w.heap.size + 1 < ((w.alloc (Obj.cells #[.int .i64 t.sets, .int .i64 t.ways, .slice a n cap] 63)).alloc (Obj.cells #[.bool false, .int .i64 0, .int .i64 0, .int .u64 0] 68)).heap.size := by simp
  clear hX heb hn hr he hs hw hnil hsp
  go_enter Try.func46, Try.ntmps46
  go_wp2_with fail
  generalize (w.alloc (Obj.cells #[.int .i64 t.sets, .int .i64 t.ways, .slice a n cap] 63)).alloc (Obj.cells #[.bool false, .int .i64 0, .int .i64 0, .int .u64 0] 68) = v1 at n1 H1 H2 l1 ⊢
  have HTn : Hid (TlbAt w (.agg #[.int .i64 t.sets, .int .i64 t.ways, .slice a n cap]) t) := by have := HT.out; rw [HN.out] at this; exact this
  refine (l4Either_any _ t v1 (HTn.out.keep n1)).mono ?_
  rw [HEb.out]
  rintro e v2 ⟨rfl, n2⟩
  have n12 := Below.step n1 n2 (Nat.le_refl _)
  have K1 : Hid (v2.heap[w.heap.size + 1]? = some (.cells #[.bool false, .int .i64 0, .int .i64 0, .int .u64 0] 68 (0, 0))) := heap_keep H1.out n2 l1
  have K2 : v2.cell? ⟨w.heap.size, 2, none⟩ = some (.slice a n cap) := Below.cell2 n2 H2.out (by omega)
  have l2 : w.heap.size + 1 < v2.heap.size := Nat.lt_of_lt_of_le l1 n2.size
  clear n1 n2 H1 H2 l1
  cases eb
  · obtain ⟨⟨d0, d1, d2, d3⟩, e0, e1, e2, e3⟩ := four_cells K1.out
    have hz : (x1, x2, x3, x4) = (false, 0, 0, 0) := by rw [← HX.out]; unfold hitM; rw [if_pos HEb.out]
    cases hz
    go_wp2_with fail
    exact bodyPost_ret (v := .agg #[.bool false, .int .i64 0, .int .i64 0, .int .u64 0]) (by simp [results, Try.results46, go_sem, d0, d1, d2, d3]) rfl ⟨rfl, bel4 n12 (by omega) _ _ _ _⟩
  · go_wp2_with fail
    go_loopw [7] (fun lev wr => ∃ l : Nat, l ≤ 3 ∧ lev = .int .i64 l ∧ (∀ l' : Nat, l' < l → findL va asid l' 0 t.es = none) ∧ Below v2.heap.size v2 wr) (fun lev _ => 3 - (intOf lev).toNat)
    case atStart => exact ⟨0, by omega, rfl, fun l' h => absurd h (by omega), Below.refl _ _⟩
    case round =>
      obtain ⟨l, hl3, rfl, hprev, hb⟩ := hrel
      have HPv : Hid (∀ l' : Nat, l' < l → findL va asid l' 0 t.es = none) := hprev
      clear hprev
      by_cases hlt : l ≤ 2
      · have hlt' : decide ((l : Int) ≤ 2) = true := by simp; omega
        go_wp2_with fail
        go_loopw [8] (fun i wq => ∃ k : Nat, k ≤ n ∧ i = .int .i64 k ∧ (∀ j x, j < k → t.es[j]? = some x → hitB va asid l x = false) ∧ Below v2.heap.size v2 wq) (fun i _ => n - (intOf i).toNat)
        case atStart => exact ⟨0, Nat.zero_le _, rfl, fun j x hj => absurd hj (by omega), hb⟩
        case round =>
          obtain ⟨k, hk, rfl, hall, hbq⟩ := hrel
          have HA : Hid (∀ j x, j < k → t.es[j]? = some x → hitB va asid l x = false) := hall
          clear hall hb
          have d12 := Below.cell2 hbq K2 (by omega)
          have l3 : w.heap.size + 1 < wr.heap.size := Nat.lt_of_lt_of_le l2 hbq.size
          have n1q := Below.step n12 hbq (Nat.le_refl _)
          by_cases hkn : k < n
          · have hx : ∃ x : EntM, t.es[k]? = some x := ⟨_, List.getElem?_eq_getElem (by have := HN.out; omega)⟩
            obtain ⟨⟨v, lv, tg, asd, gl, pt⟩, hx⟩ := hx
            have hok : entOk ⟨v, lv, tg, asd, gl, pt⟩ := HE.out _ (List.mem_of_getElem? hx)
            have hlv := either_level HEb.out k _ hx
            obtain ⟨b, off, rfl⟩ : ∃ b off, a = some ⟨b, off, none⟩ := by
              rcases HR.out.2 with h0 | ⟨b, off, rfl, _, _⟩
              · omega
              · exact ⟨b, off, rfl⟩
            have HRr := RowC.keep HR.out n1q
            have g0 : wr.cell? ⟨b, off + k * 6, none⟩ = some (.bool v) := row_cell HRr HN.out k _ hx 0 _ (by omega) rfl
            have g1 : wr.cell? ⟨b, off + k * 6 + 1, none⟩ = some (.int .i64 lv) := row_cell HRr HN.out k _ hx 1 _ (by omega) rfl
            have g2 : wr.cell? ⟨b, off + k * 6 + 2, none⟩ = some (.int .u64 tg) := row_cell HRr HN.out k _ hx 2 _ (by omega) rfl
            have g3 : wr.cell? ⟨b, off + k * 6 + 3, none⟩ = some (.int .u64 asd) := row_cell HRr HN.out k _ hx 3 _ (by omega) rfl
            have g4 : wr.cell? ⟨b, off + k * 6 + 4, none⟩ = some (.bool gl) := row_cell HRr HN.out k _ hx 4 _ (by omega) rfl
            have g5 : wr.cell? ⟨b, off + k * 6 + 5, none⟩ = some (.int .u64 pt) := row_cell HRr HN.out k _ hx 5 _ (by omega) rfl
            have HXk : Hid (t.es[k]? = some ⟨v, lv, tg, asd, gl, pt⟩) := hx
            have HLv : Hid (v = true → 0 ≤ lv ∧ lv ≤ 2) := hlv
            have HPt : Hid (hitB va asid l ⟨v, lv, tg, asd, gl, pt⟩ = false → ∀ j x, j < k + 1 → t.es[j]? = some x → hitB va asid l x = false) := fun h j x hj hx' => by
              by_cases e : j = k
              · subst e; rw [hx] at hx'; cases hx'; exact h
              · exact HA.out j x (by omega) hx'
            clear hx HRr hlv
            obtain ⟨fv, hfv⟩ : ∃ fv, fitsM ⟨v, lv, tg, asd, gl, pt⟩ va asid = fv := ⟨_, rfl⟩
            have HF : Hid (fitsM ⟨v, lv, tg, asd, gl, pt⟩ va asid = fv) := hfv
            clear hfv
            cases hq : (lv == (l : Int))
            · go_wp2_with fail
              go_roundw
              case rel => exact ⟨k + 1, by omega, by go_num, HPt.out (by simp [hitB, hq]), hbq⟩
              case measure => simp [intOf]; omega
            · have hq' : lv = (l : Int) := by simpa using hq
              subst hq'
              clear hq
              go_wp2_with fail
              refine (l4Fits_any ⟨v, (l : Int), tg, asd, gl, pt⟩ va asid wr hok HLv.out hv0 hv1).mono ?_
              rw [HF.out]
              rintro e v5 ⟨rfl, n5⟩
              have hb5 := Below.step hbq n5 (Nat.le_refl _)
              have n15 := Below.step n1q n5 (Nat.le_refl _)
              have p5 : v5.cell? ⟨b, off + k * 6 + 5, none⟩ = some (.int .u64 pt) := Below.cell2 n5 g5 (by
                rcases HR.out.2 with h0 | ⟨b', off', e, hlt', _⟩
                · omega
                · cases e; exact Nat.lt_of_lt_of_le hlt' n1q.size)
              have p12 := Below.cell2 n5 d12 (by omega)
              obtain ⟨⟨d0, d1, d2, d3⟩, e0, e1, e2, e3⟩ := four_cells (heap_keep K1.out hb5 l2)
              clear g0 g1 g2 g3 g4 g5 d12 n5
              cases fv
              · clear d0 d1 d2 d3 e0 e1 e2 e3 p5
                go_wp2_with fail
                go_roundw
                case rel => exact ⟨k + 1, by omega, by go_num, HPt.out (by simp [hitB, HF.out]), hb5⟩
                case measure => simp [intOf]; omega
              · have hh : hitB va asid l ⟨v, (l : Int), tg, asd, gl, pt⟩ = true := by simp [hitB, HF.out]
                have hfind := findL_some va asid l t.es 0 k _ HXk.out hh HA.out
                have HV : Hid ((x1, x2, x3, x4) = (true, (k : Int), (l : Int), pt)) := by
                  show _ = _
                  rw [← HX.out]
                  exact hitM_at t va asid l k _ HEb.out hlt HPv.out (by rw [hfind, Nat.zero_add])
                clear hh hfind
                have hV := HV.out
                cases hV
                go_wp2_with fail
                exact bodyPost_ret (v := .agg #[.bool true, .int .i64 k, .int .i64 l, .int .u64 x4]) (by simp [results, Try.results46, go_sem, d0, d1, d2, d3]) rfl ⟨rfl, bel4 n15 (by omega) _ _ _ _⟩
          · have hkn' : k = n := by omega
            have HF : Hid (findL va asid l 0 t.es = none) := findL_none va asid l t.es 0 (fun j x hx => HA.out j x (by have h1 := (List.getElem?_eq_some_iff.1 hx).1; have h2 := HN.out; omega) hx)
            go_wp2_with fail
            go_roundw
            case rel => exact ⟨l + 1, by omega, by go_num, fun l' h => by
              by_cases e : l' = l
              · subst e; exact HF.out
              · exact HPv.out l' (by omega), hbq⟩
            case measure => simp [intOf]; omega
      · obtain ⟨⟨d0, d1, d2, d3⟩, e0, e1, e2, e3⟩ := four_cells (heap_keep K1.out hb l2)
        have n14 := Below.step n12 hb (Nat.le_refl _)
        have hz : (x1, x2, x3, x4) = (false, 0, 0, 0) := by
          rw [← HX.out]
          exact hitM_none t va asid HEb.out (fun l' h => HPv.out l' (by omega))
        cases hz
        clear K2
        go_wp2_with fail
        exact bodyPost_ret (v := .agg #[.bool false, .int .i64 0, .int .i64 0, .int .u64 0]) (by simp [results, Try.results46, go_sem, d0, d1, d2, d3]) rfl ⟨rfl, bel4 n14 (by omega) _ _ _ _⟩

end Go.Proofs.Ythekickjjaleaab
