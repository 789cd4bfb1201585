import Derived.Test.YthekickjjaleaacGreatPack04
import Derived.Test.YthekickjjaleaacGreatPack03
import Derived.Deep.QuietTactic
import Derived.BigQuiet
/- The specification's chapter 4: l4Tag, l4GoodEntry. -/
namespace Go.Proofs.YthekickjjaleaacGreat
open Go.RowKit
set_option linter.unusedVariables false

/-- The cells of an entry. -/
def entC (e : EntM) : List Value := [.bool e.valid, .int .i64 e.level, .int .u64 e.tag, .int .u64 e.asid, .bool e.glob, .int .u64 e.pte]
def entV (e : EntM) : Value := .agg #[.bool e.valid, .int .i64 e.level, .int .u64 e.tag, .int .u64 e.asid, .bool e.glob, .int .u64 e.pte]

theorem l4Tag_at (va level : Int) (w : World) (h0 : 0 ≤ va) (h1 : va ≤ 18446744073709551615) (hl : 0 ≤ level) (hl' : level ≤ 2) :
    Calls Tryz.prog 98 #[.int .u64 va, .int .i64 level] w fun e w' => e = .returned (.int .u64 (tagM va level)) ∧ ∃ n, w' = w.drewN n := by
  rcases (show level = 0 ∨ level = 1 ∨ level = 2 by omega) with rfl | rfl | rfl
  · go_enter Tryz.func98, Tryz.ntmps98
    go_wp2_with fail
    refine (l2Bits_at va 6 14 64 512 w h0 h1 (by omega) (by omega) (by omega) (by omega) rfl rfl).mono ?_
    rintro e w' ⟨rfl, nq, rfl⟩
    go_wp2_with fail
    go_ret
    exact ⟨rfl, nq, rfl⟩
  · go_enter Tryz.func98, Tryz.ntmps98
    go_wp2_with fail
    refine (l2Bits_at va 9 14 512 64 w h0 h1 (by omega) (by omega) (by omega) (by omega) rfl rfl).mono ?_
    rintro e w' ⟨rfl, nq, rfl⟩
    go_wp2_with fail
    go_ret
    exact ⟨rfl, nq, rfl⟩
  · go_enter Tryz.func98, Tryz.ntmps98
    go_wp2_with fail
    refine (l2Bits_at va 12 14 4096 8 w h0 h1 (by omega) (by omega) (by omega) (by omega) rfl rfl).mono ?_
    rintro e w' ⟨rfl, nq, rfl⟩
    go_wp2_with fail
    go_ret
    exact ⟨rfl, nq, rfl⟩

set_option maxHeartbeats 1600000 in
theorem l4GoodEntry_any (x : EntM) (p : Bool) (w : World) (hx : entOk x) :
    Calls Tryz.prog 97 #[entV x, .bool p] w fun e w' => e = .returned (.bool (goodEntM x p)) ∧ Below w.heap.size w w' := by
  obtain ⟨v, lv, tg, asd, gl, pt⟩ := x
  obtain ⟨⟨a1, a2⟩, ⟨b1, b2⟩, ⟨c1, c2⟩, d1, d2⟩ := hx
  simp only at a1 a2 b1 b2 c1 c2 d1 d2
  unfold entV goodEntM
  simp only
  have n1 := (Below.refl w.heap.size w).alloc (Nat.le_refl _) (Obj.cells #[.bool v, .int .i64 lv, .int .u64 tg, .int .u64 asd, .bool gl, .int .u64 pt] 101)
  cases v
  · cases p
    all_goals
      go_enter Tryz.func97, Tryz.ntmps97
      go_wp2_with fail
      go_quiet (fail)
      go_wp2_with fail
      go_ret
      exact ⟨ret_bool (by simp), below_drewN n1 nq⟩
  by_cases h0n : ¬ (0 ≤ lv)
  · have h0 : ¬ (0 ≤ lv) := h0n
    have h0' : decide (0 ≤ lv) = false := by simpa using h0
    cases p
    all_goals
      go_enter Tryz.func97, Tryz.ntmps97
      go_wp2_with fail
      go_quiet (fail)
      go_wp2_with fail
      go_ret
      exact ⟨ret_bool (by simp [h0']), below_drewN n1 nq⟩
  have h0 : 0 ≤ lv := Decidable.not_not.1 h0n
  clear h0n
  by_cases h2n : ¬ (lv ≤ 2)
  · have h2 : ¬ (lv ≤ 2) := h2n
    have h2' : decide (lv ≤ 2) = false := by simpa using h2
    cases p
    all_goals
      go_enter Tryz.func97, Tryz.ntmps97
      go_wp2_with fail
      go_quiet (fail)
      go_wp2_with fail
      go_ret
      exact ⟨ret_bool (by simp [h2']), below_drewN n1 nq⟩
  have h2 : lv ≤ 2 := Decidable.not_not.1 h2n
  clear h2n
  obtain ⟨g5, hg5⟩ : ∃ g5, bitB pt 32 = g5 := ⟨_, rfl⟩
  obtain ⟨kd, hkd⟩ : ∃ kd, kindM pt lv = kd := ⟨_, rfl⟩
  rw [hg5, hkd]
  have HC5 : Hid (∀ w : World, Calls Tryz.prog 96 #[.int .u64 pt, .int .i64 5] w fun e w' => e = .returned (.bool g5) ∧ ∃ n, w' = w.drewN n) := fun w => by
    have := l2Bit_at pt 5 32 w d1 d2 (by omega) (by omega) rfl
    rw [hg5] at this
    exact this
  have HC6 : Hid (∀ w : World, Calls Tryz.prog 49 #[.int .u64 pt, .int .i64 lv] w fun e w' => e = .returned (.int .i64 kd) ∧ ∃ n, w' = w.drewN n) := fun w => by
    have := specPteKind_at pt lv w d1 d2 a1 a2
    rw [hkd] at this
    exact this
  clear hg5 hkd
  rcases (show lv = 0 ∨ lv = 1 ∨ lv = 2 by omega) with rfl | rfl | rfl
  · by_cases htn : ¬ (tg < 512)
    · have ht : ¬ (tg < 512) := htn
      have ht' : decide (tg < 512) = false := by simpa using ht
      cases p
      all_goals
        go_enter Tryz.func97, Tryz.ntmps97
        go_wp2_with fail
        go_quiet (first
        | (go_at_call 88; exact Calls.quiet_of_same (l2Pow_at 9 512 _ (by omega) rfl))
        | (go_at_call 96; exact Calls.quiet_of (HC5.out _))
        | (go_at_call 49; exact Calls.quiet_of (HC6.out _)))
        go_wp2_with fail
        go_ret
        exact ⟨ret_bool (by simp [pow9, wantM, ht']), below_drewN n1 nq⟩
    have ht : tg < 512 := Decidable.not_not.1 htn
    clear htn
    by_cases han : ¬ (asd ≤ 65535)
    · have ha : ¬ (asd ≤ 65535) := han
      have ha' : decide (asd ≤ 65535) = false := by simpa using ha
      cases p
      all_goals
        go_enter Tryz.func97, Tryz.ntmps97
        go_wp2_with fail
        go_quiet (first
        | (go_at_call 88; exact Calls.quiet_of_same (l2Pow_at 9 512 _ (by omega) rfl))
        | (go_at_call 96; exact Calls.quiet_of (HC5.out _))
        | (go_at_call 49; exact Calls.quiet_of (HC6.out _)))
        go_wp2_with fail
        go_ret
        exact ⟨ret_bool (by simp [pow9, wantM, ht, ha']), below_drewN n1 nq⟩
    have ha : asd ≤ 65535 := Decidable.not_not.1 han
    clear han
    cases p <;> cases gl <;> cases g5
    all_goals
      go_enter Tryz.func97, Tryz.ntmps97
      go_wp2_with fail
      go_quiet (first
        | (go_at_call 88; exact Calls.quiet_of_same (l2Pow_at 9 512 _ (by omega) rfl))
        | (go_at_call 96; exact Calls.quiet_of (HC5.out _))
        | (go_at_call 49; exact Calls.quiet_of (HC6.out _)))
      go_wp2_with fail
      go_ret
      exact ⟨ret_bool (by simp [pow9, wantM, ht, ha]), below_drewN n1 nq⟩
  · by_cases htn : ¬ (tg < 64)
    · have ht : ¬ (tg < 64) := htn
      have ht' : decide (tg < 64) = false := by simpa using ht
      cases p
      all_goals
        go_enter Tryz.func97, Tryz.ntmps97
        go_wp2_with fail
        go_quiet (first
        | (go_at_call 88; exact Calls.quiet_of_same (l2Pow_at 6 64 _ (by omega) rfl))
        | (go_at_call 96; exact Calls.quiet_of (HC5.out _))
        | (go_at_call 49; exact Calls.quiet_of (HC6.out _)))
        go_wp2_with fail
        go_ret
        exact ⟨ret_bool (by simp [pow9, wantM, ht']), below_drewN n1 nq⟩
    have ht : tg < 64 := Decidable.not_not.1 htn
    clear htn
    by_cases han : ¬ (asd ≤ 65535)
    · have ha : ¬ (asd ≤ 65535) := han
      have ha' : decide (asd ≤ 65535) = false := by simpa using ha
      cases p
      all_goals
        go_enter Tryz.func97, Tryz.ntmps97
        go_wp2_with fail
        go_quiet (first
        | (go_at_call 88; exact Calls.quiet_of_same (l2Pow_at 6 64 _ (by omega) rfl))
        | (go_at_call 96; exact Calls.quiet_of (HC5.out _))
        | (go_at_call 49; exact Calls.quiet_of (HC6.out _)))
        go_wp2_with fail
        go_ret
        exact ⟨ret_bool (by simp [pow9, wantM, ht, ha']), below_drewN n1 nq⟩
    have ha : asd ≤ 65535 := Decidable.not_not.1 han
    clear han
    cases p <;> cases gl <;> cases g5
    all_goals
      go_enter Tryz.func97, Tryz.ntmps97
      go_wp2_with fail
      go_quiet (first
        | (go_at_call 88; exact Calls.quiet_of_same (l2Pow_at 6 64 _ (by omega) rfl))
        | (go_at_call 96; exact Calls.quiet_of (HC5.out _))
        | (go_at_call 49; exact Calls.quiet_of (HC6.out _)))
      go_wp2_with fail
      go_ret
      exact ⟨ret_bool (by simp [pow9, wantM, ht, ha]), below_drewN n1 nq⟩
  · by_cases htn : ¬ (tg < 8)
    · have ht : ¬ (tg < 8) := htn
      have ht' : decide (tg < 8) = false := by simpa using ht
      cases p
      all_goals
        go_enter Tryz.func97, Tryz.ntmps97
        go_wp2_with fail
        go_quiet (first
        | (go_at_call 88; exact Calls.quiet_of_same (l2Pow_at 3 8 _ (by omega) rfl))
        | (go_at_call 96; exact Calls.quiet_of (HC5.out _))
        | (go_at_call 49; exact Calls.quiet_of (HC6.out _)))
        go_wp2_with fail
        go_ret
        exact ⟨ret_bool (by simp [pow9, wantM, ht']), below_drewN n1 nq⟩
    have ht : tg < 8 := Decidable.not_not.1 htn
    clear htn
    by_cases han : ¬ (asd ≤ 65535)
    · have ha : ¬ (asd ≤ 65535) := han
      have ha' : decide (asd ≤ 65535) = false := by simpa using ha
      cases p
      all_goals
        go_enter Tryz.func97, Tryz.ntmps97
        go_wp2_with fail
        go_quiet (first
        | (go_at_call 88; exact Calls.quiet_of_same (l2Pow_at 3 8 _ (by omega) rfl))
        | (go_at_call 96; exact Calls.quiet_of (HC5.out _))
        | (go_at_call 49; exact Calls.quiet_of (HC6.out _)))
        go_wp2_with fail
        go_ret
        exact ⟨ret_bool (by simp [pow9, wantM, ht, ha']), below_drewN n1 nq⟩
    have ha : asd ≤ 65535 := Decidable.not_not.1 han
    clear han
    cases p <;> cases gl <;> cases g5
    all_goals
      go_enter Tryz.func97, Tryz.ntmps97
      go_wp2_with fail
      go_quiet (first
        | (go_at_call 88; exact Calls.quiet_of_same (l2Pow_at 3 8 _ (by omega) rfl))
        | (go_at_call 96; exact Calls.quiet_of (HC5.out _))
        | (go_at_call 49; exact Calls.quiet_of (HC6.out _)))
      go_wp2_with fail
      go_ret
      exact ⟨ret_bool (by simp [pow9, wantM, ht, ha]), below_drewN n1 nq⟩

end Go.Proofs.YthekickjjaleaacGreat

/- A region that draws its order, whose operations read and whose callees make new memory alone: one walk, in the order of the text. -/
namespace Go.Proofs.YthekickjjaleaacGreat
open Go.RowKit
set_option linter.unusedVariables false

/-- A world in which all that lies in v is as it was. -/
structure Lies (v : World) where
  w : World
  h : Below v.heap.size v w

theorem lies_some (v : World) : Nonempty (Lies v) := ⟨⟨v, Below.refl _ _⟩⟩

theorem lies_quiet {P : Program} {f : FuncId} {args : Array Value} {v : World} (u : Lies v) {x : Value} (h : Calls P f args u.w fun e w' => e = .returned x ∧ Below u.w.heap.size u.w w') :
    Calls P f args u.w fun e w'' => e = .returned x ∧ ∃ u' : Lies v, w'' = u'.w :=
  h.mono fun e w' ⟨he, hb⟩ => ⟨he, ⟨w', Below.step u.h hb (Nat.le_refl _)⟩, rfl⟩

theorem lies_same {P : Program} {f : FuncId} {args : Array Value} {v : World} (u : Lies v) {x : Value} (h : Calls P f args u.w fun e w' => e = .returned x ∧ w' = u.w) :
    Calls P f args u.w fun e w'' => e = .returned x ∧ ∃ u' : Lies v, w'' = u'.w :=
  h.mono fun e w' ⟨he, hb⟩ => ⟨he, u, hb⟩

theorem lies_drew {P : Program} {f : FuncId} {args : Array Value} {v : World} (u : Lies v) {x : Value} (h : Calls P f args u.w fun e w' => e = .returned x ∧ ∃ n, w' = u.w.drewN n) :
    Calls P f args u.w fun e w'' => e = .returned x ∧ ∃ u' : Lies v, w'' = u'.w :=
  h.mono fun e w' ⟨he, n, hb⟩ => ⟨he, ⟨w', by rw [hb]; exact below_drewN u.h n⟩, rfl⟩

theorem lies_cell {v : World} {b o : Nat} {x : Value} (hc : v.cell? ⟨b, o, none⟩ = some x) (hb : b < v.heap.size) (u : Lies v) : u.w.cell? ⟨b, o, none⟩ = some x := Below.cell2 u.h hc hb

theorem wp_region_lies {P : Program} {id : Nat} {Q : Exit → Act → World → Prop} {a : Act} {w : World} {l : List Oper} (hm : P.follows .mixedOrders = true) (hB : Region.lexB .any l.toArray = true)
    (h : wpQuiet P l.toArray (fun w' => ∃ u : Lies w, w' = u.w) (fun a' => ∀ w', (∃ u : Lies w, w' = u.w) → Q .normal a' w') l a) : (Code.region id l.toArray true).wp P Q a w :=
  wp_region_quiet (C := fun w' => ∃ u : Lies w, w' = u.w) hm hB ⟨⟨w.drew, (Below.refl _ _).drew⟩, rfl⟩ (by simpa using h)

end Go.Proofs.YthekickjjaleaacGreat

/- The specification's chapter 4: ValidTlb, l4Either. -/
namespace Go.Proofs.YthekickjjaleaacGreat
open Go.RowKit
set_option linter.unusedVariables false
attribute [local go_sem ↓] Go.wp_at_zero Go.wp_at_succ

def entsC : List EntM → List Value
  | [] => []
  | e :: r => entC e ++ entsC r

/-- A cache as a value in memory. -/
def TlbAt (w : World) (v : Value) (t : TlbM) : Prop :=
  ∃ a cap, v = .agg #[.int .i64 t.sets, .int .i64 t.ways, .slice a t.es.length cap] ∧ RowC w a t.es.length 6 (entsC t.es) ∧ (∀ e ∈ t.es, entOk e) ∧
    (-9223372036854775808 ≤ t.sets ∧ t.sets ≤ 9223372036854775807) ∧ (-9223372036854775808 ≤ t.ways ∧ t.ways ≤ 9223372036854775807) ∧ t.es.length ≤ 1048576 ∧ t.es.length ≤ cap ∧ cap ≤ 9223372036854775807 ∧ (a = none → t.es.length = 0 ∧ cap = 0) ∧ (∀ q, a = some q → q.spot = none)

theorem entsC_len : ∀ es : List EntM, (entsC es).length = es.length * 6
  | [] => rfl
  | e :: r => by simp [entsC, entC, entsC_len r]; omega

theorem entsC_at : ∀ (es : List EntM) (i j : Nat) (hi : i < es.length), j < 6 → (entsC es)[i * 6 + j]? = (entC es[i])[j]?
  | e :: r, 0, j, hi, hj => by
    simp only [entsC, List.getElem_cons_zero, Nat.zero_mul, Nat.zero_add]
    rw [List.getElem?_append_left (by simp [entC]; exact hj)]
  | e :: r, i + 1, j, hi, hj => by
    simp only [entsC, List.getElem_cons_succ]
    rw [List.getElem?_append_right (by simp [entC]; omega)]
    have : (i + 1) * 6 + j - (entC e).length = i * 6 + j := by simp [entC]; omega
    rw [this]
    exact entsC_at r i j (by simpa using hi) hj

def shapeM (t : TlbM) : Bool := decide ((t.sets = 1 ∨ t.sets = 2 ∨ t.sets = 4 ∨ t.sets = 8) ∧ 1 ≤ t.ways ∧ t.ways ≤ 4 ∧ (t.es.length : Int) = t.sets * t.ways)

/-- What is asked of the entry at place i. -/
def placeM (t : TlbM) (p : Bool) (i : Nat) (e : EntM) : Bool :=
  (e.valid == false && e.level == 0 && e.tag == 0 && e.asid == 0 && e.glob == false && e.pte == 0) || (goodEntM e p && (e.tag % t.sets == (i : Int) / t.ways))

def placesM (t : TlbM) (p : Bool) : Nat → List EntM → Bool
  | _, [] => true
  | i, e :: r => placeM t p i e && placesM t p (i + 1) r

def validM (t : TlbM) (p : Bool) : Bool := shapeM t && placesM t p 0 t.es

theorem placesM_true (t : TlbM) (p : Bool) : ∀ (es : List EntM) (i : Nat), (∀ j x, es[j]? = some x → placeM t p (i + j) x = true) → placesM t p i es = true
  | [], i, h => rfl
  | e :: r, i, h => by
    simp only [placesM, Bool.and_eq_true]
    refine ⟨by simpa using h 0 e rfl, placesM_true t p r (i + 1) (fun j x hx => ?_)⟩
    have := h (j + 1) x (by simpa using hx)
    rw [show i + 1 + j = i + (j + 1) by omega]
    exact this

theorem placesM_false (t : TlbM) (p : Bool) : ∀ (es : List EntM) (i j : Nat) (x : EntM), es[j]? = some x → placeM t p (i + j) x = false → placesM t p i es = false
  | e :: r, i, 0, x, hx, h => by
    simp at hx
    subst hx
    simp only [placesM, Nat.add_zero] at h ⊢
    rw [h]; rfl
  | e :: r, i, j + 1, x, hx, h => by
    simp only [placesM]
    rw [placesM_false t p r (i + 1) j x (by simpa using hx) (by rw [show i + 1 + j = i + (j + 1) by omega]; exact h), Bool.and_false]

theorem good_tag {x : EntM} {p : Bool} (h : goodEntM x p = true) : x.tag < 512 := by
  simp only [goodEntM, Bool.and_eq_true, decide_eq_true_eq] at h
  have h1 := h.1.1.1.2
  unfold pow9 at h1
  split at h1
  · exact h1
  · split at h1 <;> omega

theorem row_cell {w : World} {b off n : Nat} {es : List EntM} (h : RowC w (some ⟨b, off, none⟩) n 6 (entsC es)) (hn : es.length = n) (k : Nat) (x : EntM) (hx : es[k]? = some x) (j : Nat) (v : Value) (hj : j < 6) (hv : (entC x)[j]? = some v) :
    w.cell? ⟨b, off + (k * 6 + j), none⟩ = some v := by
  have hk : k < es.length := (List.getElem?_eq_some_iff.1 hx).1
  rcases h.2 with h0 | ⟨b', off', e, _, hc⟩
  · omega
  · simp at e
    obtain ⟨rfl, rfl⟩ := e
    refine hc _ _ ?_
    rw [entsC_at es k j hk hj]
    rw [List.getElem?_eq_getElem hk] at hx
    simp at hx
    rw [hx]
    exact hv

set_option maxHeartbeats 6400000 in
theorem specValid_4 (b off : Nat) (cap : Nat) (ways : Int) (es : List EntM) (n : Nat) (p : Bool) (w : World) (hr : RowC w (some ⟨b, off, none⟩) n 6 (entsC es)) (he : ∀ e ∈ es, entOk e) (hl : n ≤ 1048576) (hN : es.length = n)
   (hw : 1 ≤ ways) (hw' : ways ≤ 4) (hn : (n : Int) = 4 * ways) :
    Calls Tryz.prog 85 #[.agg #[.int .i64 4, .int .i64 ways, .slice (some ⟨b, off, none⟩) n cap], .bool p] w fun e w' => e = .returned (.bool (placesM ⟨4, ways, es⟩ p 0 es)) ∧ Below w.heap.size w w' := by
  have a1 := alloc_facts w #[.int .i64 4, .int .i64 ways, .slice (some ⟨b, off, none⟩) n cap] 34
  have hn' : ((n : Int) != 4 * ways) = false := by rw [bne_eq_false_iff_eq]; omega
  have HN : Hid (es.length = n) := hN
  have HR : Hid (RowC w (some ⟨b, off, none⟩) n 6 (entsC es)) := hr
  have HE : Hid (∀ e ∈ es, entOk e) := he
  obtain ⟨R, hR⟩ : ∃ R, placesM ⟨4, ways, es⟩ p 0 es = R := ⟨_, rfl⟩
  rw [hR]
  have HP : Hid (placesM ⟨4, ways, es⟩ p 0 es = R) := hR
  clear hN hr he hn hR
  go_enter Tryz.func85, Tryz.ntmps85
  go_wp2_with fail
  generalize w.alloc (Obj.cells #[.int .i64 4, .int .i64 ways, .slice (some ⟨b, off, none⟩) n cap] 34) = v1 at a1 ⊢
  obtain ⟨l1, c1, n1⟩ := a1
  have c10 : v1.cell? ⟨w.heap.size, 0, none⟩ = some (.int .i64 4) := c1 0
  have c11 : v1.cell? ⟨w.heap.size, 1, none⟩ = some (.int .i64 ways) := c1 1
  have c12 : v1.cell? ⟨w.heap.size, 2, none⟩ = some (.slice (some ⟨b, off, none⟩) n cap) := c1 2
  clear c1
  go_loopw [5] (fun i wr => ∃ k : Nat, k ≤ n ∧ i = .int .i64 k ∧ (∀ j x, j < k → es[j]? = some x → placeM ⟨4, ways, es⟩ p j x = true) ∧ Below v1.heap.size v1 wr) (fun i _ => n - (intOf i).toNat)
  case atStart => exact ⟨0, Nat.zero_le _, rfl, fun j x hj => absurd hj (by omega), Below.refl _ _⟩
  case round =>
    obtain ⟨k, hk, rfl, hall, hb⟩ := hrel
    have HA : Hid (∀ j x, j < k → es[j]? = some x → placeM ⟨4, ways, es⟩ p j x = true) := hall
    clear hall
    have d10 := Below.cell2 hb c10 l1
    have d11 := Below.cell2 hb c11 l1
    have d12 := Below.cell2 hb c12 l1
    have l2 : w.heap.size < wr.heap.size := Nat.lt_of_lt_of_le l1 hb.size
    have n1r := Below.step n1 hb (Nat.le_refl _)
    by_cases hlt : k < n
    · have hx : ∃ x : EntM, es[k]? = some x := ⟨_, List.getElem?_eq_getElem (by have := HN.out; omega)⟩
      obtain ⟨⟨v, lv, tg, asd, gl, pt⟩, hx⟩ := hx
      have hok : entOk ⟨v, lv, tg, asd, gl, pt⟩ := HE.out _ (List.mem_of_getElem? hx)
      have HRr := RowC.keep HR.out n1r
      have g0 : wr.cell? ⟨b, off + k * 6, none⟩ = some (.bool v) := row_cell HRr HN.out k _ hx 0 _ (by omega) rfl
      have g1 : wr.cell? ⟨b, off + k * 6 + 1, none⟩ = some (.int .i64 lv) := row_cell HRr HN.out k _ hx 1 _ (by omega) rfl
      have g2 : wr.cell? ⟨b, off + k * 6 + 2, none⟩ = some (.int .u64 tg) := row_cell HRr HN.out k _ hx 2 _ (by omega) rfl
      have g3 : wr.cell? ⟨b, off + k * 6 + 3, none⟩ = some (.int .u64 asd) := row_cell HRr HN.out k _ hx 3 _ (by omega) rfl
      have g4 : wr.cell? ⟨b, off + k * 6 + 4, none⟩ = some (.bool gl) := row_cell HRr HN.out k _ hx 4 _ (by omega) rfl
      have g5 : wr.cell? ⟨b, off + k * 6 + 5, none⟩ = some (.int .u64 pt) := row_cell HRr HN.out k _ hx 5 _ (by omega) rfl
      have HX : Hid (es[k]? = some ⟨v, lv, tg, asd, gl, pt⟩) := hx
      have HPf : Hid (placeM ⟨4, ways, es⟩ p k ⟨v, lv, tg, asd, gl, pt⟩ = false → false = R) := fun h => by rw [← HP.out]; exact (placesM_false _ p es 0 k _ hx (by rw [Nat.zero_add]; exact h)).symm
      have HPt : Hid (placeM ⟨4, ways, es⟩ p k ⟨v, lv, tg, asd, gl, pt⟩ = true → ∀ j x, j < k + 1 → es[j]? = some x → placeM ⟨4, ways, es⟩ p j x = true) := fun h j x hj hx' => by
        by_cases e : j = k
        · subst e; rw [hx] at hx'; cases hx'; exact h
        · exact HA.out j x (by omega) hx'
      clear hx HRr
      have a2 := alloc_facts wr #[.bool v, .int .i64 lv, .int .u64 tg, .int .u64 asd, .bool gl, .int .u64 pt] 101
      go_wp2_with fail
      generalize wr.alloc (Obj.cells #[.bool v, .int .i64 lv, .int .u64 tg, .int .u64 asd, .bool gl, .int .u64 pt] 101) = v2 at a2 ⊢
      obtain ⟨l3, c2, n2⟩ := a2
      have k0 := lies_cell (c2 0) l3
      have k1 := lies_cell (c2 1) l3
      have k2 := lies_cell (c2 2) l3
      have k3 := lies_cell (c2 3) l3
      have k4 := lies_cell (c2 4) l3
      have k5 := lies_cell (c2 5) l3
      have j0 := lies_cell (Below.cell2 n2 d10 l2) (Nat.lt_trans l2 l3)
      have j1 := lies_cell (Below.cell2 n2 d11 l2) (Nat.lt_trans l2 l3)
      have hb2 := Below.step hb n2 (Nat.le_refl _)
      have n12 := Below.step n1 hb2 (Nat.le_refl _)
      have ne := lies_some v2
      clear c2 d10 d11 d12 hb n2 g0 g1 g2 g3 g4 g5 c10 c11 c12 n1r
      obtain ⟨gd, hgd⟩ : ∃ gd, goodEntM ⟨v, lv, tg, asd, gl, pt⟩ p = gd := ⟨_, rfl⟩
      have HGd : Hid (∀ u : Lies v2, Calls Tryz.prog 97 #[entV ⟨v, lv, tg, asd, gl, pt⟩, .bool p] u.w fun e w' => e = .returned (.bool gd) ∧ Below u.w.heap.size u.w w') := fun u => by
        have := l4GoodEntry_any ⟨v, lv, tg, asd, gl, pt⟩ p u.w hok
        rw [hgd] at this
        exact this
      have HGv : Hid (goodEntM ⟨v, lv, tg, asd, gl, pt⟩ p = gd) := hgd
      clear hgd
      cases v
      · have hgf : gd = false := by rw [← HGv.out]; simp [goodEntM]
        subst hgf
        by_cases q1n : ¬ (lv = 0)
        · have q1 : (lv == 0) = false := by simpa using q1n
          have HQ : Hid ((lv == 0) = false) := q1
          clear q1n
          refine wp_region_lies (by kernel_rfl) (by kernel_rfl) ?_
          repeat (go_big_quiet_step ((go_at_call 97; exact lies_quiet _ (HGd.out _))))
          refine wpQuiet_nil ?_
          rintro _ ⟨u, rfl⟩
          go_wp2_with fail
          go_ret
          exact ⟨ret_bool (HPf.out (by simp [placeM, HGv.out, HQ.out])), Below.step n12 u.h (Nat.le_refl _)⟩
        have q1z : lv = 0 := Decidable.not_not.1 q1n
        subst q1z
        clear q1n
        by_cases q2n : ¬ (tg = 0)
        · have q2 : (tg == 0) = false := by simpa using q2n
          have HQ : Hid ((tg == 0) = false) := q2
          clear q2n
          refine wp_region_lies (by kernel_rfl) (by kernel_rfl) ?_
          repeat (go_big_quiet_step ((go_at_call 97; exact lies_quiet _ (HGd.out _))))
          refine wpQuiet_nil ?_
          rintro _ ⟨u, rfl⟩
          go_wp2_with fail
          go_ret
          exact ⟨ret_bool (HPf.out (by simp [placeM, HGv.out, HQ.out])), Below.step n12 u.h (Nat.le_refl _)⟩
        have q2z : tg = 0 := Decidable.not_not.1 q2n
        subst q2z
        clear q2n
        by_cases q3n : ¬ (asd = 0)
        · have q3 : (asd == 0) = false := by simpa using q3n
          have HQ : Hid ((asd == 0) = false) := q3
          clear q3n
          refine wp_region_lies (by kernel_rfl) (by kernel_rfl) ?_
          repeat (go_big_quiet_step ((go_at_call 97; exact lies_quiet _ (HGd.out _))))
          refine wpQuiet_nil ?_
          rintro _ ⟨u, rfl⟩
          go_wp2_with fail
          go_ret
          exact ⟨ret_bool (HPf.out (by simp [placeM, HGv.out, HQ.out])), Below.step n12 u.h (Nat.le_refl _)⟩
        have q3z : asd = 0 := Decidable.not_not.1 q3n
        subst q3z
        clear q3n
        cases hgl : gl
        · subst hgl
          by_cases q5n : ¬ (pt = 0)
          · have q5 : (pt == 0) = false := by simpa using q5n
            have HQ : Hid ((pt == 0) = false) := q5
            clear q5n
            refine wp_region_lies (by kernel_rfl) (by kernel_rfl) ?_
            repeat (go_big_quiet_step ((go_at_call 97; exact lies_quiet _ (HGd.out _))))
            refine wpQuiet_nil ?_
            rintro _ ⟨u, rfl⟩
            go_wp2_with fail
            go_ret
            exact ⟨ret_bool (HPf.out (by simp [placeM, HGv.out, HQ.out])), Below.step n12 u.h (Nat.le_refl _)⟩
          have q5z : pt = 0 := Decidable.not_not.1 q5n
          subst q5z
          clear q5n
          refine wp_region_lies (by kernel_rfl) (by kernel_rfl) ?_
          repeat (go_big_quiet_step ((go_at_call 97; exact lies_quiet _ (HGd.out _))))
          refine wpQuiet_nil ?_
          rintro _ ⟨u, rfl⟩
          go_wp2_with fail
          go_roundw
          case rel => exact ⟨k + 1, by omega, by go_num, HPt.out (by simp [placeM]), Below.step hb2 u.h (Nat.le_refl _)⟩
          case measure => simp [intOf]; omega
        · subst hgl
          refine wp_region_lies (by kernel_rfl) (by kernel_rfl) ?_
          repeat (go_big_quiet_step ((go_at_call 97; exact lies_quiet _ (HGd.out _))))
          refine wpQuiet_nil ?_
          rintro _ ⟨u, rfl⟩
          go_wp2_with fail
          go_ret
          exact ⟨ret_bool (HPf.out (by simp [placeM, HGv.out])), Below.step n12 u.h (Nat.le_refl _)⟩
      · cases gd
        · -- not good
          refine wp_region_lies (by kernel_rfl) (by kernel_rfl) ?_
          repeat (go_big_quiet_step ((go_at_call 97; exact lies_quiet _ (HGd.out _))))
          refine wpQuiet_nil ?_
          rintro _ ⟨u, rfl⟩
          go_wp2_with fail
          go_ret
          exact ⟨ret_bool (HPf.out (by simp [placeM, HGv.out])), Below.step n12 u.h (Nat.le_refl _)⟩
        · have htg : tg < 512 := good_tag HGv.out
          have htg0 : 0 ≤ tg := hok.2.1.1
          have hd0 : 0 ≤ (k : Int) / ways := Int.ediv_nonneg (by omega) (by omega)
          have hd1 : (k : Int) / ways ≤ 1048576 := Int.le_trans (Int.ediv_le_self _ (by omega)) (by omega)
          by_cases hq : tg % 4 = (k : Int) / ways
          · have hq' : (tg % 4 != (k : Int) / ways) = false := by rw [bne_eq_false_iff_eq]; exact hq
            have HQ : Hid (tg % 4 = (k : Int) / ways) := hq
            clear hq
            refine wp_region_lies (by kernel_rfl) (by kernel_rfl) ?_
            repeat (go_big_quiet_step ((go_at_call 97; exact lies_quiet _ (HGd.out _))))
            refine wpQuiet_nil ?_
            rintro _ ⟨u, rfl⟩
            go_wp2_with fail
            go_roundw
            case rel => exact ⟨k + 1, by omega, by go_num, HPt.out (by simp [placeM, HGv.out, HQ.out]), Below.step hb2 u.h (Nat.le_refl _)⟩
            case measure => simp [intOf]; omega
          · have hq' : (tg % 4 != (k : Int) / ways) = true := by rw [bne_iff_ne]; exact hq
            have HQ : Hid (¬ tg % 4 = (k : Int) / ways) := hq
            clear hq
            refine wp_region_lies (by kernel_rfl) (by kernel_rfl) ?_
            repeat (go_big_quiet_step ((go_at_call 97; exact lies_quiet _ (HGd.out _))))
            refine wpQuiet_nil ?_
            rintro _ ⟨u, rfl⟩
            go_wp2_with fail
            go_ret
            exact ⟨ret_bool (HPf.out (by simp [placeM, HQ.out])), Below.step n12 u.h (Nat.le_refl _)⟩
    · have hkn : k = n := by omega
      subst hkn
      have HT : Hid (true = R) := by
        show true = R
        rw [← HP.out]
        exact (placesM_true _ p es 0 (fun j x hx => by rw [Nat.zero_add]; exact HA.out j x (by have h1 := (List.getElem?_eq_some_iff.1 hx).1; have h2 := HN.out; omega) hx)).symm
      clear c10 c11 c12 n1 d10 d11
      go_wp2_with fail
      go_ret
      exact ⟨ret_bool HT.out, n1r⟩

end Go.Proofs.YthekickjjaleaacGreat

/- Rows of one's own and small blocks in memory. No program is named here. -/
namespace Go.Proofs.YthekickjjaleaacGreat
open Go.RowKit
set_option linter.unusedVariables false

theorem three_cells {v : World} {p : Nat} {T : TypeId} {a b c : Value} (h : v.heap[p]? = some (.cells #[a, b, c] T (0, 0))) :
    (v.cell? ⟨p, 0, none⟩ = some a ∧ v.cell? ⟨p, 1, none⟩ = some b ∧ v.cell? ⟨p, 2, none⟩ = some c) ∧ v.frozen? ⟨p, 0, none⟩ = false ∧ v.frozen? ⟨p, 1, none⟩ = false ∧ v.frozen? ⟨p, 2, none⟩ = false := by
  simp [World.cell?, World.frozen?, h]

theorem tset0 {v : World} {p : Nat} {T : TypeId} {a b c u : Value} (h : v.heap[p]? = some (.cells #[a, b, c] T (0, 0))) : (v.setCell ⟨p, 0, none⟩ u).heap[p]? = some (.cells #[u, b, c] T (0, 0)) := by
  simp [World.setCell, Array.getElem?_modify, h]

theorem tset1 {v : World} {p : Nat} {T : TypeId} {a b c u : Value} (h : v.heap[p]? = some (.cells #[a, b, c] T (0, 0))) : (v.setCell ⟨p, 1, none⟩ u).heap[p]? = some (.cells #[a, u, c] T (0, 0)) := by
  simp [World.setCell, Array.getElem?_modify, h]

theorem tset2 {v : World} {p : Nat} {T : TypeId} {a b c u : Value} (h : v.heap[p]? = some (.cells #[a, b, c] T (0, 0))) : (v.setCell ⟨p, 2, none⟩ u).heap[p]? = some (.cells #[a, b, u] T (0, 0)) := by
  simp [World.setCell, Array.getElem?_modify, h]

theorem gb3 (v : World) (g : Nat) (x y z : Value) : v.grownBy (((v.setCell ⟨g, 0, none⟩ x).setCell ⟨g, 1, none⟩ y).setCell ⟨g, 2, none⟩ z) (some g) :=
  gb_set (gb_set (gb_set (gb_refl v (some g)) 0 x) 1 y) 2 z

theorem bel3 {B : Nat} {a w : World} {g : Nat} (h : Below B a w) (hg : B ≤ g) (x y z : Value) : Below B a (((w.setCell ⟨g, 0, none⟩ x).setCell ⟨g, 1, none⟩ y).setCell ⟨g, 2, none⟩ z) :=
  ((h.setCell (p := ⟨g, 0, none⟩) hg x).setCell (p := ⟨g, 1, none⟩) hg y).setCell (p := ⟨g, 2, none⟩) hg z

theorem own_low {e : TypeId} {size : Nat} {w : World} {base base' n : Nat} {v : Value} {cs : List Value} (h : w.ownsRow base e size v n cs) (hb : base' ≤ base) : w.ownsRow base' e size v n cs := by
  obtain ⟨h1, h2⟩ := h
  refine ⟨h1, ?_⟩
  rcases h2 with h2 | ⟨g, cap, cur, h2, hb', r⟩
  · exact .inl h2
  · exact .inr ⟨g, cap, cur, h2, by omega, r⟩

/-- A row of one's own is not in a block below its base. -/
theorem own_gb {e : TypeId} {size : Nat} {w w' : World} {base n r : Nat} {v : Value} {cs : List Value} (h : w.ownsRow base e size v n cs) (hg : w.grownBy w' (some r)) (hr : r < base) : w'.ownsRow base e size v n cs := by
  refine h.kept hg ?_
  rcases h.2 with ⟨rfl, _⟩ | ⟨g, cap, cur, rfl, hb', _⟩
  · exact .inl rfl
  · refine .inr ?_
    simp [Value.ownBlock]
    omega

theorem own_below {e : TypeId} {size : Nat} {w w' : World} {base n : Nat} {v : Value} {cs : List Value} (h : w.ownsRow base e size v n cs) (hb : Below w.heap.size w w') : w'.ownsRow base e size v n cs := by
  obtain ⟨h1, h2⟩ := h
  refine ⟨h1, ?_⟩
  rcases h2 with h2 | ⟨g, cap, cur, h2, hb', hg, r⟩
  · exact .inl h2
  · refine .inr ⟨g, cap, cur, h2, hb', ?_, r⟩
    exact heap_keep hg hb (Array.getElem?_eq_some_iff.1 hg).1

/-- append onto a row of one's own, nil or not, of a row that is there. -/
theorem wp_append_v {P : Program} (w : World) {o : Oper} {a : Act} {K : Act → World → Prop} {Q : Exit → Act → World → Prop} (s x : Operand) (t : TypeId)
    (ho : o.op = .call { callee := .builtin .append, args := #[s, x], argTypes := #[t, t] }) (e : TypeId) (ht : P.underlying t = some (.slice e)) (z : Value) (size bytes : Nat)
    (hi : (P.info? e).map (fun i => (i.zero, i.size, i.bytes)) = some (some z, size, bytes)) (hzs : z.cells.size = size) (hsz : 0 < size)
    (base n : Nat) (v : Value) (cs : List Value) (hs : a.eval s = v) (hown : w.ownsRow base e size v n cs)
    (b off m c : Nat) (ys : List Value) (hx : a.eval x = .slice (some ⟨b, off, none⟩) m c) (hm : 0 < m) (hy : RowC w (some ⟨b, off, none⟩) m size ys) (h1 : ∀ u ∈ ys, u.oneCell' = true)
    (hbd : (n + m) * bytes ≤ 140737488355328) (hbd' : n + m ≤ 9223372036854775807)
    (hbw : base ≤ w.heap.size) (B : Nat) (W : World) (hb : Below B W w) (hB : B ≤ base)
    (h : ∀ g' cap' w', w'.ownsRow base e size (.slice (some ⟨g', 0, none⟩) (n + m) cap') (n + m) (cs ++ ys) → Below B W w' → K (a.put o.dst (.slice (some ⟨g', 0, none⟩) (n + m) cap')) w') : o.wp P a w K Q := by
  obtain ⟨i0, hi, hz0, hz1, hz2⟩ := info_parts hi
  refine wp_append_own w s x t ho base e i0 z size bytes ht hi hz0 hz1 hz2 hzs hsz v n _ hs hown ⟨b, off, none⟩ m c ys hx hy.1 (src_row hy) h1 (by unfold maxLen; omega) hbd (by omega) ?_
  intro v' w' h1 h2 h3
  have hbl : Below B W w' := hb.grown h2 (by omega) (fun k hk => by have := (hown.lt k hk).1; omega)
  rcases h1.2 with ⟨e1, e2⟩ | ⟨g, cap, cur, e1, r⟩
  · omega
  · subst e1
    exact h g cap w' h1 hbl

/-- .. at a list of operations. -/
theorem append_v {P : Program} (w : World) {ops : Array Oper} {rest : List Oper} {o : Oper} {a : Act} {Q : Exit → Act → World → Prop} (hgd : o.guard = none) (s x : Operand) (t : TypeId)
    (ho : o.op = .call { callee := .builtin .append, args := #[s, x], argTypes := #[t, t] }) (e : TypeId) (ht : P.underlying t = some (.slice e)) (z : Value) (size bytes : Nat)
    (hi : (P.info? e).map (fun i => (i.zero, i.size, i.bytes)) = some (some z, size, bytes)) (hzs : z.cells.size = size) (hsz : 0 < size)
    (base n : Nat) (v : Value) (cs : List Value) (hs : a.eval s = v) (hown : w.ownsRow base e size v n cs)
    (b off m c : Nat) (ys : List Value) (hx : a.eval x = .slice (some ⟨b, off, none⟩) m c) (hm : 0 < m) (hy : RowC w (some ⟨b, off, none⟩) m size ys) (h1 : ∀ u ∈ ys, u.oneCell' = true)
    (hbd : (n + m) * bytes ≤ 140737488355328) (hbd' : n + m ≤ 9223372036854775807)
    (hbw : base ≤ w.heap.size) (B : Nat) (W : World) (hb : Below B W w) (hB : B ≤ base)
    (h : ∀ g' cap' w', w'.ownsRow base e size (.slice (some ⟨g', 0, none⟩) (n + m) cap') (n + m) (cs ++ ys) → Below B W w' → wpList P ops Q rest (a.put o.dst (.slice (some ⟨g', 0, none⟩) (n + m) cap')) w') : wpList P ops Q (o :: rest) a w :=
  wpList_plain hgd fun _ hK => wp_append_v w s x t ho e ht z size bytes hi hzs hsz base n v cs hs hown b off m c ys hx hm hy h1 hbd hbd' hbw B W hb hB fun g' cap' w' h2 h3 => hK _ _ (h g' cap' w' h2 h3)

theorem own_drew {e : TypeId} {size : Nat} {w : World} {base n : Nat} {v : Value} {cs : List Value} (h : w.ownsRow base e size v n cs) : w.drew.ownsRow base e size v n cs := h

/-- The first m cells of a block. -/
def CurAt (e : TypeId) (w : World) (g m : Nat) (cs : List Value) : Prop := cs.length = m ∧ ∃ cur, w.heap[g]? = some (.cells cur e (0, 0)) ∧ cur.toList.take m = cs

theorem CurAt.lt {e : TypeId} {w : World} {g m : Nat} {cs : List Value} (h : CurAt e w g m cs) : g < w.heap.size := by
  obtain ⟨_, cur, h2, _⟩ := h
  exact (Array.getElem?_eq_some_iff.1 h2).1

theorem CurAt.cell {e : TypeId} {w : World} {g m : Nat} {cs : List Value} (h : CurAt e w g m cs) (j : Nat) (u : Value) (hj : cs[j]? = some u) : w.cell? ⟨g, j, none⟩ = some u := by
  obtain ⟨h1, cur, h2, h3⟩ := h
  subst h3
  rw [List.getElem?_take] at hj
  split at hj
  · simp only [World.cell?, h2]
    simpa using hj
  · cases hj

theorem CurAt.free {e : TypeId} {w : World} {g m : Nat} {cs : List Value} (h : CurAt e w g m cs) (j : Nat) : w.frozen? ⟨g, j, none⟩ = false := by
  obtain ⟨h1, cur, h2, h3⟩ := h
  simp [World.frozen?, h2]

theorem CurAt.store {e : TypeId} {w : World} {g m : Nat} {cs : List Value} (h : CurAt e w g m cs) (j : Nat) (u : Value) : CurAt e (w.setCell ⟨g, j, none⟩ u) g m (cs.set j u) := by
  obtain ⟨h1, cur, h2, h3⟩ := h
  refine ⟨by simpa using h1, cur.setIfInBounds j u, by simp [World.setCell, Array.getElem?_modify, h2], ?_⟩
  subst h3
  rw [Array.toList_setIfInBounds, List.take_set]

theorem CurAt.gb {e : TypeId} {w w' : World} {g m r : Nat} {cs : List Value} (h : CurAt e w g m cs) (hg : w.grownBy w' (some r)) (hne : g ≠ r) : CurAt e w' g m cs := by
  obtain ⟨h1, cur, h2, h3⟩ := h
  exact ⟨h1, cur, heap_gb h2 hg hne, h3⟩

theorem CurAt.of_own {e : TypeId} {size : Nat} {w : World} {base g n cap : Nat} {cs : List Value} (h : w.ownsRow base e size (.slice (some ⟨g, 0, none⟩) n cap) n cs) : CurAt e w g (n * size) cs ∧ base ≤ g := by
  obtain ⟨h1, h2⟩ := h
  rcases h2 with ⟨h2, _⟩ | ⟨g', cap', cur, h2, hb, hg, _, _, _, ht⟩
  · cases h2
  · cases h2
    exact ⟨⟨h1, cur, hg, ht⟩, hb⟩

theorem row_own {e : TypeId} {size : Nat} {w : World} {base n : Nat} {a : Option Addr} {cap : Nat} {cs : List Value} (h : w.ownsRow base e size (.slice a n cap) n cs) : RowC w a n size cs := by
  cases a with
  | none =>
    obtain ⟨h1, h2⟩ := h
    rcases h2 with ⟨_, h2⟩ | ⟨g', cap', cur, h2, _⟩
    · subst h2
      exact ⟨h1, .inl rfl⟩
    · cases h2
  | some q =>
    have hq : q = ⟨q.block, 0, none⟩ := by
      obtain ⟨h1, h2⟩ := h
      rcases h2 with ⟨h2, _⟩ | ⟨g', cap', cur, h2, _⟩
      · cases h2
      · cases h2; rfl
    rw [hq] at h ⊢
    have := CurAt.of_own h
    refine ⟨h.1, .inr ⟨q.block, 0, rfl, this.1.lt, fun i u hu => ?_⟩⟩
    rw [Nat.zero_add]
    exact this.1.cell i u hu

theorem own_at {e : TypeId} {size : Nat} {w : World} {base n cap : Nat} {q : Addr} {cs : List Value} (h : w.ownsRow base e size (.slice (some q) n cap) n cs) : q = ⟨q.block, 0, none⟩ ∧ base ≤ q.block ∧ q.block < w.heap.size := by
  rcases h.2 with ⟨h2, _⟩ | ⟨g', cap', cur, h2, hb, hg, _⟩
  · cases h2
  · cases h2
    exact ⟨rfl, hb, (Array.getElem?_eq_some_iff.1 hg).1⟩

theorem own_nil {e : TypeId} {size : Nat} {w : World} {base n cap : Nat} {cs : List Value} (h : w.ownsRow base e size (.slice none n cap) n cs) : n = 0 := by
  rcases h.2 with ⟨_, h2⟩ | ⟨g', cap', cur, h2, _⟩
  · exact h2
  · cases h2

theorem gb_trans {a b c : World} {r : Option Nat} (h : a.grownBy b r) (k : b.grownBy c r) : a.grownBy c r :=
  ⟨k.os.trans h.os, k.tape.trans h.tape, k.output.trans h.output, Nat.le_trans h.size k.size, fun i hi hn => (k.block i (Nat.lt_of_lt_of_le hi h.size) hn).trans (h.block i hi hn)⟩

theorem two_put {v : World} {p : Nat} {T : TypeId} {a b x y : Value} (h : v.heap[p]? = some (.cells #[a, b] T (0, 0))) : ((v.setCell ⟨p, 0, none⟩ x).setCell ⟨p, 1, none⟩ y).heap[p]? = some (.cells #[x, y] T (0, 0)) := by
  simp [World.setCell, Array.getElem?_modify, h]

theorem hid_keep {w w' : World} {b : Nat} {o : Obj} (h : Hid (w.heap[b]? = some o)) (n : Below w.heap.size w w') : Hid (w'.heap[b]? = some o) := heap_keep h.out n (Array.getElem?_eq_some_iff.1 h.out).1

end Go.Proofs.YthekickjjaleaacGreat

/- Plain mathematics of chapter 4: fences, flushing, insertion. No program, no memory. -/
namespace Go.Proofs.YthekickjjaleaacGreat
set_option linter.unusedVariables false

/-- A fence. -/
structure FenceM where
  hasVa : Bool
  va : Int
  hasAsid : Bool
  asid : Int

def coversM (f : FenceM) (level tag asid : Int) (glob : Bool) : Bool :=
  !(f.hasVa && (!canonM f.va || tag != tagM f.va level)) && (!f.hasAsid || (!glob && asid == f.asid))

def struckM (f : FenceM) (e : EntM) : EntM := if (e.valid && coversM f e.level e.tag e.asid e.glob) = true then ent0 else e

/-- The first way from w on, of 'left' ways, whose entry is not valid. -/
def freeM (es : List EntM) (first : Nat) : Nat → Nat → Option Nat
  | _, 0 => none
  | w, left + 1 => if (es[first + w]?.getD ent0).valid = false then some w else freeM es first (w + 1) left

end Go.Proofs.YthekickjjaleaacGreat
