import Derived.Test.YthekickjjaleaacPack02
import Derived.Deep.QuietTactic
import Derived.BigQuiet
import Derived.Test.YthekickjjaleaacPack01
import Derived.Deep.RegionLaw
/- Plain mathematics of chapter 4: entries and caches. No program, no memory. -/
namespace Go.Proofs.Ythekickjjaleaac
set_option linter.unusedVariables false

/-- An entry of a cache. -/
structure EntM where
  valid : Bool
  level : Int
  tag : Int
  asid : Int
  glob : Bool
  pte : Int

def ent0 : EntM := ⟨false, 0, 0, 0, false, 0⟩

/-- A cache. -/
structure TlbM where
  sets : Int
  ways : Int
  es : List EntM

/-- The tag of va at a level. -/
def tagM (va level : Int) : Int := if level = 0 then va / 64 % 512 else if level = 1 then va / 512 % 64 else va / 4096 % 8
/-- 2 to the (9 - 3 * level). -/
def pow9 (level : Int) : Int := if level = 0 then 512 else if level = 1 then 64 else 8

def wantM (p : Bool) : Int := if p = true then 1 else 2

def goodEntM (e : EntM) (p : Bool) : Bool :=
  e.valid && decide (0 ≤ e.level) && decide (e.level ≤ 2) && decide (e.tag < pow9 e.level) && decide (e.asid ≤ 65535) && (e.glob == bitB e.pte 32) && (kindM e.pte e.level == wantM p)

/-- The number kinds of an entry's fields. -/
def entOk (e : EntM) : Prop :=
  (-9223372036854775808 ≤ e.level ∧ e.level ≤ 9223372036854775807) ∧ (0 ≤ e.tag ∧ e.tag ≤ 18446744073709551615) ∧ (0 ≤ e.asid ∧ e.asid ≤ 18446744073709551615) ∧ (0 ≤ e.pte ∧ e.pte ≤ 18446744073709551615)

end Go.Proofs.Ythekickjjaleaac

/- The specification's chapter 4: l4Tag, l4GoodEntry. -/
namespace Go.Proofs.Ythekickjjaleaac
open Go.RowKit
set_option linter.unusedVariables false

/-- The cells of an entry. -/
def entC (e : EntM) : List Value := [.bool e.valid, .int .i64 e.level, .int .u64 e.tag, .int .u64 e.asid, .bool e.glob, .int .u64 e.pte]
def entV (e : EntM) : Value := .agg #[.bool e.valid, .int .i64 e.level, .int .u64 e.tag, .int .u64 e.asid, .bool e.glob, .int .u64 e.pte]

set_option maxHeartbeats 1600000 in
theorem l4GoodEntry_any (x : EntM) (p : Bool) (w : World) (hx : entOk x) :
    Calls Try.prog 67 #[entV x, .bool p] w fun e w' => e = .returned (.bool (goodEntM x p)) ∧ Below w.heap.size w w' := by
  obtain ⟨v, lv, tg, asd, gl, pt⟩ := x
  obtain ⟨⟨a1, a2⟩, ⟨b1, b2⟩, ⟨c1, c2⟩, d1, d2⟩ := hx
  simp only at a1 a2 b1 b2 c1 c2 d1 d2
  unfold entV goodEntM
  simp only
  have n1 := (Below.refl w.heap.size w).alloc (Nat.le_refl _) (Obj.cells #[.bool v, .int .i64 lv, .int .u64 tg, .int .u64 asd, .bool gl, .int .u64 pt] 91)
  cases v
  · cases p
    all_goals
      go_enter Try.func67, Try.ntmps67
      go_wp2_with fail
      go_quiet (fail)
      go_wp2_with fail
      go_ret
      exact ⟨ret_bool (by simp), below_drewN n1 nq⟩
  by_cases h0n : ¬ (0 ≤ lv)
  · have h0 : ¬ (0 ≤ lv) := h0n
    have h0' : decide (0 ≤ lv) = false := by simpa using h0
    cases p
    all_goals
      go_enter Try.func67, Try.ntmps67
      go_wp2_with fail
      go_quiet (fail)
      go_wp2_with fail
      go_ret
      exact ⟨ret_bool (by simp [h0']), below_drewN n1 nq⟩
  have h0 : 0 ≤ lv := Decidable.not_not.1 h0n
  clear h0n
  by_cases h2n : ¬ (lv ≤ 2)
  · have h2 : ¬ (lv ≤ 2) := h2n
    have h2' : decide (lv ≤ 2) = false := by simpa using h2
    cases p
    all_goals
      go_enter Try.func67, Try.ntmps67
      go_wp2_with fail
      go_quiet (fail)
      go_wp2_with fail
      go_ret
      exact ⟨ret_bool (by simp [h2']), below_drewN n1 nq⟩
  have h2 : lv ≤ 2 := Decidable.not_not.1 h2n
  clear h2n
  obtain ⟨g5, hg5⟩ : ∃ g5, bitB pt 32 = g5 := ⟨_, rfl⟩
  obtain ⟨kd, hkd⟩ : ∃ kd, kindM pt lv = kd := ⟨_, rfl⟩
  rw [hg5, hkd]
  have HC5 : Hid (∀ w : World, Calls Try.prog 77 #[.int .u64 pt, .int .i64 5] w fun e w' => e = .returned (.bool g5) ∧ ∃ n, w' = w.drewN n) := fun w => by
    have := l2Bit_at pt 5 32 w d1 d2 (by omega) (by omega) rfl
    rw [hg5] at this
    exact this
  have HC6 : Hid (∀ w : World, Calls Try.prog 78 #[.int .u64 pt, .int .i64 lv] w fun e w' => e = .returned (.int .i64 kd) ∧ ∃ n, w' = w.drewN n) := fun w => by
    have := specPteKind_at pt lv w d1 d2 a1 a2
    rw [hkd] at this
    exact this
  clear hg5 hkd
  rcases (show lv = 0 ∨ lv = 1 ∨ lv = 2 by omega) with rfl | rfl | rfl
  · by_cases htn : ¬ (tg < 512)
    · have ht : ¬ (tg < 512) := htn
      have ht' : decide (tg < 512) = false := by simpa using ht
      cases p
      all_goals
        go_enter Try.func67, Try.ntmps67
        go_wp2_with fail
        go_quiet (first
        | (go_at_call 45; exact Calls.quiet_of_same (l2Pow_at 9 512 _ (by omega) rfl))
        | (go_at_call 77; exact Calls.quiet_of (HC5.out _))
        | (go_at_call 78; exact Calls.quiet_of (HC6.out _)))
        go_wp2_with fail
        go_ret
        exact ⟨ret_bool (by simp [pow9, wantM, ht']), below_drewN n1 nq⟩
    have ht : tg < 512 := Decidable.not_not.1 htn
    clear htn
    by_cases han : ¬ (asd ≤ 65535)
    · have ha : ¬ (asd ≤ 65535) := han
      have ha' : decide (asd ≤ 65535) = false := by simpa using ha
      cases p
      all_goals
        go_enter Try.func67, Try.ntmps67
        go_wp2_with fail
        go_quiet (first
        | (go_at_call 45; exact Calls.quiet_of_same (l2Pow_at 9 512 _ (by omega) rfl))
        | (go_at_call 77; exact Calls.quiet_of (HC5.out _))
        | (go_at_call 78; exact Calls.quiet_of (HC6.out _)))
        go_wp2_with fail
        go_ret
        exact ⟨ret_bool (by simp [pow9, wantM, ht, ha']), below_drewN n1 nq⟩
    have ha : asd ≤ 65535 := Decidable.not_not.1 han
    clear han
    cases p <;> cases gl <;> cases g5
    all_goals
      go_enter Try.func67, Try.ntmps67
      go_wp2_with fail
      go_quiet (first
        | (go_at_call 45; exact Calls.quiet_of_same (l2Pow_at 9 512 _ (by omega) rfl))
        | (go_at_call 77; exact Calls.quiet_of (HC5.out _))
        | (go_at_call 78; exact Calls.quiet_of (HC6.out _)))
      go_wp2_with fail
      go_ret
      exact ⟨ret_bool (by simp [pow9, wantM, ht, ha]), below_drewN n1 nq⟩
  · by_cases htn : ¬ (tg < 64)
    · have ht : ¬ (tg < 64) := htn
      have ht' : decide (tg < 64) = false := by simpa using ht
      cases p
      all_goals
        go_enter Try.func67, Try.ntmps67
        go_wp2_with fail
        go_quiet (first
        | (go_at_call 45; exact Calls.quiet_of_same (l2Pow_at 6 64 _ (by omega) rfl))
        | (go_at_call 77; exact Calls.quiet_of (HC5.out _))
        | (go_at_call 78; exact Calls.quiet_of (HC6.out _)))
        go_wp2_with fail
        go_ret
        exact ⟨ret_bool (by simp [pow9, wantM, ht']), below_drewN n1 nq⟩
    have ht : tg < 64 := Decidable.not_not.1 htn
    clear htn
    by_cases han : ¬ (asd ≤ 65535)
    · have ha : ¬ (asd ≤ 65535) := han
      have ha' : decide (asd ≤ 65535) = false := by simpa using ha
      cases p
      all_goals
        go_enter Try.func67, Try.ntmps67
        go_wp2_with fail
        go_quiet (first
        | (go_at_call 45; exact Calls.quiet_of_same (l2Pow_at 6 64 _ (by omega) rfl))
        | (go_at_call 77; exact Calls.quiet_of (HC5.out _))
        | (go_at_call 78; exact Calls.quiet_of (HC6.out _)))
        go_wp2_with fail
        go_ret
        exact ⟨ret_bool (by simp [pow9, wantM, ht, ha']), below_drewN n1 nq⟩
    have ha : asd ≤ 65535 := Decidable.not_not.1 han
    clear han
    cases p <;> cases gl <;> cases g5
    all_goals
      go_enter Try.func67, Try.ntmps67
      go_wp2_with fail
      go_quiet (first
        | (go_at_call 45; exact Calls.quiet_of_same (l2Pow_at 6 64 _ (by omega) rfl))
        | (go_at_call 77; exact Calls.quiet_of (HC5.out _))
        | (go_at_call 78; exact Calls.quiet_of (HC6.out _)))
      go_wp2_with fail
      go_ret
      exact ⟨ret_bool (by simp [pow9, wantM, ht, ha]), below_drewN n1 nq⟩
  · by_cases htn : ¬ (tg < 8)
    · have ht : ¬ (tg < 8) := htn
      have ht' : decide (tg < 8) = false := by simpa using ht
      cases p
      all_goals
        go_enter Try.func67, Try.ntmps67
        go_wp2_with fail
        go_quiet (first
        | (go_at_call 45; exact Calls.quiet_of_same (l2Pow_at 3 8 _ (by omega) rfl))
        | (go_at_call 77; exact Calls.quiet_of (HC5.out _))
        | (go_at_call 78; exact Calls.quiet_of (HC6.out _)))
        go_wp2_with fail
        go_ret
        exact ⟨ret_bool (by simp [pow9, wantM, ht']), below_drewN n1 nq⟩
    have ht : tg < 8 := Decidable.not_not.1 htn
    clear htn
    by_cases han : ¬ (asd ≤ 65535)
    · have ha : ¬ (asd ≤ 65535) := han
      have ha' : decide (asd ≤ 65535) = false := by simpa using ha
      cases p
      all_goals
        go_enter Try.func67, Try.ntmps67
        go_wp2_with fail
        go_quiet (first
        | (go_at_call 45; exact Calls.quiet_of_same (l2Pow_at 3 8 _ (by omega) rfl))
        | (go_at_call 77; exact Calls.quiet_of (HC5.out _))
        | (go_at_call 78; exact Calls.quiet_of (HC6.out _)))
        go_wp2_with fail
        go_ret
        exact ⟨ret_bool (by simp [pow9, wantM, ht, ha']), below_drewN n1 nq⟩
    have ha : asd ≤ 65535 := Decidable.not_not.1 han
    clear han
    cases p <;> cases gl <;> cases g5
    all_goals
      go_enter Try.func67, Try.ntmps67
      go_wp2_with fail
      go_quiet (first
        | (go_at_call 45; exact Calls.quiet_of_same (l2Pow_at 3 8 _ (by omega) rfl))
        | (go_at_call 77; exact Calls.quiet_of (HC5.out _))
        | (go_at_call 78; exact Calls.quiet_of (HC6.out _)))
      go_wp2_with fail
      go_ret
      exact ⟨ret_bool (by simp [pow9, wantM, ht, ha]), below_drewN n1 nq⟩

end Go.Proofs.Ythekickjjaleaac

/- A region that draws its order, whose operations read and whose callees make new memory alone: one walk, in the order of the text. -/
namespace Go.Proofs.Ythekickjjaleaac
open Go.RowKit
set_option linter.unusedVariables false

/-- A world in which all that lies in v is as it was. -/
structure Lies (v : World) where
  w : World
  h : Below v.heap.size v w

theorem lies_some (v : World) : Nonempty (Lies v) := ⟨⟨v, Below.refl _ _⟩⟩

theorem lies_quiet {P : Program} {f : FuncId} {args : Array Value} {v : World} (u : Lies v) {x : Value} (h : Calls P f args u.w fun e w' => e = .returned x ∧ Below u.w.heap.size u.w w') :
    Calls P f args u.w fun e w'' => e = .returned x ∧ ∃ u' : Lies v, w'' = u'.w :=
  h.mono fun e w' ⟨he, hb⟩ => ⟨he, ⟨w', Below.step u.h hb (Nat.le_refl _)⟩, rfl⟩

theorem lies_cell {v : World} {b o : Nat} {x : Value} (hc : v.cell? ⟨b, o, none⟩ = some x) (hb : b < v.heap.size) (u : Lies v) : u.w.cell? ⟨b, o, none⟩ = some x := Below.cell2 u.h hc hb

theorem wp_region_lies {P : Program} {id : Nat} {Q : Exit → Act → World → Prop} {a : Act} {w : World} {l : List Oper} (hm : P.follows .mixedOrders = true) (hB : Region.lexB .any l.toArray = true)
    (h : wpQuiet P l.toArray (fun w' => ∃ u : Lies w, w' = u.w) (fun a' => ∀ w', (∃ u : Lies w, w' = u.w) → Q .normal a' w') l a) : (Code.region id l.toArray true).wp P Q a w :=
  wp_region_quiet (C := fun w' => ∃ u : Lies w, w' = u.w) hm hB ⟨⟨w.drew, (Below.refl _ _).drew⟩, rfl⟩ (by simpa using h)

end Go.Proofs.Ythekickjjaleaac

/- The specification's chapter 4: ValidTlb, l4Either. -/
namespace Go.Proofs.Ythekickjjaleaac
open Go.RowKit
set_option linter.unusedVariables false
attribute [local go_sem ↓] Go.wp_at_zero Go.wp_at_succ

def entsC : List EntM → List Value
  | [] => []
  | e :: r => entC e ++ entsC r

/-- A cache as a value in memory. -/
def TlbAt (w : World) (v : Value) (t : TlbM) : Prop :=
  ∃ a cap, v = .agg #[.int .i64 t.sets, .int .i64 t.ways, .slice a t.es.length cap] ∧ RowC w a t.es.length 6 (entsC t.es) ∧ (∀ e ∈ t.es, entOk e) ∧
    (-9223372036854775808 ≤ t.sets ∧ t.sets ≤ 9223372036854775807) ∧ (-9223372036854775808 ≤ t.ways ∧ t.ways ≤ 9223372036854775807) ∧ t.es.length ≤ 1048576 ∧ t.es.length ≤ cap ∧ cap ≤ 9223372036854775807 ∧ (a = none → t.es.length = 0 ∧ cap = 0) ∧ (∀ q, a = some q → q.spot = none)

theorem entsC_len : ∀ es : List EntM, (entsC es).length = es.length * 6
  | [] => rfl
  | e :: r => by simp [entsC, entC, entsC_len r]; omega

theorem entsC_at : ∀ (es : List EntM) (i j : Nat) (hi : i < es.length), j < 6 → (entsC es)[i * 6 + j]? = (entC es[i])[j]?
  | e :: r, 0, j, hi, hj => by
    simp only [entsC, List.getElem_cons_zero, Nat.zero_mul, Nat.zero_add]
    rw [List.getElem?_append_left (by simp [entC]; exact hj)]
  | e :: r, i + 1, j, hi, hj => by
    simp only [entsC, List.getElem_cons_succ]
    rw [List.getElem?_append_right (by simp [entC]; omega)]
    have : (i + 1) * 6 + j - (entC e).length = i * 6 + j := by simp [entC]; omega
    rw [this]
    exact entsC_at r i j (by simpa using hi) hj

def shapeM (t : TlbM) : Bool := decide ((t.sets = 1 ∨ t.sets = 2 ∨ t.sets = 4 ∨ t.sets = 8) ∧ 1 ≤ t.ways ∧ t.ways ≤ 4 ∧ (t.es.length : Int) = t.sets * t.ways)

/-- What is asked of the entry at place i. -/
def placeM (t : TlbM) (p : Bool) (i : Nat) (e : EntM) : Bool :=
  (e.valid == false && e.level == 0 && e.tag == 0 && e.asid == 0 && e.glob == false && e.pte == 0) || (goodEntM e p && (e.tag % t.sets == (i : Int) / t.ways))

def placesM (t : TlbM) (p : Bool) : Nat → List EntM → Bool
  | _, [] => true
  | i, e :: r => placeM t p i e && placesM t p (i + 1) r

def validM (t : TlbM) (p : Bool) : Bool := shapeM t && placesM t p 0 t.es

theorem placesM_true (t : TlbM) (p : Bool) : ∀ (es : List EntM) (i : Nat), (∀ j x, es[j]? = some x → placeM t p (i + j) x = true) → placesM t p i es = true
  | [], i, h => rfl
  | e :: r, i, h => by
    simp only [placesM, Bool.and_eq_true]
    refine ⟨by simpa using h 0 e rfl, placesM_true t p r (i + 1) (fun j x hx => ?_)⟩
    have := h (j + 1) x (by simpa using hx)
    rw [show i + 1 + j = i + (j + 1) by omega]
    exact this

theorem placesM_false (t : TlbM) (p : Bool) : ∀ (es : List EntM) (i j : Nat) (x : EntM), es[j]? = some x → placeM t p (i + j) x = false → placesM t p i es = false
  | e :: r, i, 0, x, hx, h => by
    simp at hx
    subst hx
    simp only [placesM, Nat.add_zero] at h ⊢
    rw [h]; rfl
  | e :: r, i, j + 1, x, hx, h => by
    simp only [placesM]
    rw [placesM_false t p r (i + 1) j x (by simpa using hx) (by rw [show i + 1 + j = i + (j + 1) by omega]; exact h), Bool.and_false]

theorem good_tag {x : EntM} {p : Bool} (h : goodEntM x p = true) : x.tag < 512 := by
  simp only [goodEntM, Bool.and_eq_true, decide_eq_true_eq] at h
  have h1 := h.1.1.1.2
  unfold pow9 at h1
  split at h1
  · exact h1
  · split at h1 <;> omega

theorem row_cell {w : World} {b off n : Nat} {es : List EntM} (h : RowC w (some ⟨b, off, none⟩) n 6 (entsC es)) (hn : es.length = n) (k : Nat) (x : EntM) (hx : es[k]? = some x) (j : Nat) (v : Value) (hj : j < 6) (hv : (entC x)[j]? = some v) :
    w.cell? ⟨b, off + (k * 6 + j), none⟩ = some v := by
  have hk : k < es.length := (List.getElem?_eq_some_iff.1 hx).1
  rcases h.2 with h0 | ⟨b', off', e, _, hc⟩
  · omega
  · simp at e
    obtain ⟨rfl, rfl⟩ := e
    refine hc _ _ ?_
    rw [entsC_at es k j hk hj]
    rw [List.getElem?_eq_getElem hk] at hx
    simp at hx
    rw [hx]
    exact hv

set_option maxHeartbeats 6400000 in
theorem specValid_4 (b off : Nat) (cap : Nat) (ways : Int) (es : List EntM) (n : Nat) (p : Bool) (w : World) (hr : RowC w (some ⟨b, off, none⟩) n 6 (entsC es)) (he : ∀ e ∈ es, entOk e) (hl : n ≤ 1048576) (hN : es.length = n)
   (hw : 1 ≤ ways) (hw' : ways ≤ 4) (hn : (n : Int) = 4 * ways) :
    Calls Try.prog 58 #[.agg #[.int .i64 4, .int .i64 ways, .slice (some ⟨b, off, none⟩) n cap], .bool p] w fun e w' => e = .returned (.bool (placesM ⟨4, ways, es⟩ p 0 es)) ∧ Below w.heap.size w w' := by
  have a1 := alloc_facts w #[.int .i64 4, .int .i64 ways, .slice (some ⟨b, off, none⟩) n cap] 27
  have hn' : ((n : Int) != 4 * ways) = false := by rw [bne_eq_false_iff_eq]; omega
  have HN : Hid (es.length = n) := hN
  have HR : Hid (RowC w (some ⟨b, off, none⟩) n 6 (entsC es)) := hr
  have HE : Hid (∀ e ∈ es, entOk e) := he
  obtain ⟨R, hR⟩ : ∃ R, placesM ⟨4, ways, es⟩ p 0 es = R := ⟨_, rfl⟩
  rw [hR]
  have HP : Hid (placesM ⟨4, ways, es⟩ p 0 es = R) := hR
  clear hN hr he hn hR
  go_enter Try.func58, Try.ntmps58
  go_wp2_with fail
  generalize w.alloc (Obj.cells #[.int .i64 4, .int .i64 ways, .slice (some ⟨b, off, none⟩) n cap] 27) = v1 at a1 ⊢
  obtain ⟨l1, c1, n1⟩ := a1
  have c10 : v1.cell? ⟨w.heap.size, 0, none⟩ = some (.int .i64 4) := c1 0
  have c11 : v1.cell? ⟨w.heap.size, 1, none⟩ = some (.int .i64 ways) := c1 1
  have c12 : v1.cell? ⟨w.heap.size, 2, none⟩ = some (.slice (some ⟨b, off, none⟩) n cap) := c1 2
  clear c1
  go_loopw [5] (fun i wr => ∃ k : Nat, k ≤ n ∧ i = .int .i64 k ∧ (∀ j x, j < k → es[j]? = some x → placeM ⟨4, ways, es⟩ p j x = true) ∧ Below v1.heap.size v1 wr) (fun i _ => n - (intOf i).toNat)
  case atStart => exact ⟨0, Nat.zero_le _, rfl, fun j x hj => absurd hj (by omega), Below.refl _ _⟩
  case round =>
    obtain ⟨k, hk, rfl, hall, hb⟩ := hrel
    have HA : Hid (∀ j x, j < k → es[j]? = some x → placeM ⟨4, ways, es⟩ p j x = true) := hall
    clear hall
    have d10 := Below.cell2 hb c10 l1
    have d11 := Below.cell2 hb c11 l1
    have d12 := Below.cell2 hb c12 l1
    have l2 : w.heap.size < wr.heap.size := Nat.lt_of_lt_of_le l1 hb.size
    have n1r := Below.step n1 hb (Nat.le_refl _)
    by_cases hlt : k < n
    · have hx : ∃ x : EntM, es[k]? = some x := ⟨_, List.getElem?_eq_getElem (by have := HN.out; omega)⟩
      obtain ⟨⟨v, lv, tg, asd, gl, pt⟩, hx⟩ := hx
      have hok : entOk ⟨v, lv, tg, asd, gl, pt⟩ := HE.out _ (List.mem_of_getElem? hx)
      have HRr := RowC.keep HR.out n1r
      have g0 : wr.cell? ⟨b, off + k * 6, none⟩ = some (.bool v) := row_cell HRr HN.out k _ hx 0 _ (by omega) rfl
      have g1 : wr.cell? ⟨b, off + k * 6 + 1, none⟩ = some (.int .i64 lv) := row_cell HRr HN.out k _ hx 1 _ (by omega) rfl
      have g2 : wr.cell? ⟨b, off + k * 6 + 2, none⟩ = some (.int .u64 tg) := row_cell HRr HN.out k _ hx 2 _ (by omega) rfl
      have g3 : wr.cell? ⟨b, off + k * 6 + 3, none⟩ = some (.int .u64 asd) := row_cell HRr HN.out k _ hx 3 _ (by omega) rfl
      have g4 : wr.cell? ⟨b, off + k * 6 + 4, none⟩ = some (.bool gl) := row_cell HRr HN.out k _ hx 4 _ (by omega) rfl
      have g5 : wr.cell? ⟨b, off + k * 6 + 5, none⟩ = some (.int .u64 pt) := row_cell HRr HN.out k _ hx 5 _ (by omega) rfl
      have HX : Hid (es[k]? = some ⟨v, lv, tg, asd, gl, pt⟩) := hx
      have HPf : Hid (placeM ⟨4, ways, es⟩ p k ⟨v, lv, tg, asd, gl, pt⟩ = false → false = R) := fun h => by rw [← HP.out]; exact (placesM_false _ p es 0 k _ hx (by rw [Nat.zero_add]; exact h)).symm
      have HPt : Hid (placeM ⟨4, ways, es⟩ p k ⟨v, lv, tg, asd, gl, pt⟩ = true → ∀ j x, j < k + 1 → es[j]? = some x → placeM ⟨4, ways, es⟩ p j x = true) := fun h j x hj hx' => by
        by_cases e : j = k
        · subst e; rw [hx] at hx'; cases hx'; exact h
        · exact HA.out j x (by omega) hx'
      clear hx HRr
      have a2 := alloc_facts wr #[.bool v, .int .i64 lv, .int .u64 tg, .int .u64 asd, .bool gl, .int .u64 pt] 91
      go_wp2_with fail
      generalize wr.alloc (Obj.cells #[.bool v, .int .i64 lv, .int .u64 tg, .int .u64 asd, .bool gl, .int .u64 pt] 91) = v2 at a2 ⊢
      obtain ⟨l3, c2, n2⟩ := a2
      have k0 := lies_cell (c2 0) l3
      have k1 := lies_cell (c2 1) l3
      have k2 := lies_cell (c2 2) l3
      have k3 := lies_cell (c2 3) l3
      have k4 := lies_cell (c2 4) l3
      have k5 := lies_cell (c2 5) l3
      have j0 := lies_cell (Below.cell2 n2 d10 l2) (Nat.lt_trans l2 l3)
      have j1 := lies_cell (Below.cell2 n2 d11 l2) (Nat.lt_trans l2 l3)
      have hb2 := Below.step hb n2 (Nat.le_refl _)
      have n12 := Below.step n1 hb2 (Nat.le_refl _)
      have ne := lies_some v2
      clear c2 d10 d11 d12 hb n2 g0 g1 g2 g3 g4 g5 c10 c11 c12 n1r
      obtain ⟨gd, hgd⟩ : ∃ gd, goodEntM ⟨v, lv, tg, asd, gl, pt⟩ p = gd := ⟨_, rfl⟩
      have HGd : Hid (∀ u : Lies v2, Calls Try.prog 67 #[entV ⟨v, lv, tg, asd, gl, pt⟩, .bool p] u.w fun e w' => e = .returned (.bool gd) ∧ Below u.w.heap.size u.w w') := fun u => by
        have := l4GoodEntry_any ⟨v, lv, tg, asd, gl, pt⟩ p u.w hok
        rw [hgd] at this
        exact this
      have HGv : Hid (goodEntM ⟨v, lv, tg, asd, gl, pt⟩ p = gd) := hgd
      clear hgd
      cases v
      · have hgf : gd = false := by rw [← HGv.out]; simp [goodEntM]
        subst hgf
        by_cases q1n : ¬ (lv = 0)
        · have q1 : (lv == 0) = false := by simpa using q1n
          have HQ : Hid ((lv == 0) = false) := q1
          clear q1n
          refine wp_region_lies (by kernel_rfl) (by kernel_rfl) ?_
          repeat (go_big_quiet_step ((go_at_call 67; exact lies_quiet _ (HGd.out _))))
          refine wpQuiet_nil ?_
          rintro _ ⟨u, rfl⟩
          go_wp2_with fail
          go_ret
          exact ⟨ret_bool (HPf.out (by simp [placeM, HGv.out, HQ.out])), Below.step n12 u.h (Nat.le_refl _)⟩
        have q1z : lv = 0 := Decidable.not_not.1 q1n
        subst q1z
        clear q1n
        by_cases q2n : ¬ (tg = 0)
        · have q2 : (tg == 0) = false := by simpa using q2n
          have HQ : Hid ((tg == 0) = false) := q2
          clear q2n
          refine wp_region_lies (by kernel_rfl) (by kernel_rfl) ?_
          repeat (go_big_quiet_step ((go_at_call 67; exact lies_quiet _ (HGd.out _))))
          refine wpQuiet_nil ?_
          rintro _ ⟨u, rfl⟩
          go_wp2_with fail
          go_ret
          exact ⟨ret_bool (HPf.out (by simp [placeM, HGv.out, HQ.out])), Below.step n12 u.h (Nat.le_refl _)⟩
        have q2z : tg = 0 := Decidable.not_not.1 q2n
        subst q2z
        clear q2n
        by_cases q3n : ¬ (asd = 0)
        · have q3 : (asd == 0) = false := by simpa using q3n
          have HQ : Hid ((asd == 0) = false) := q3
          clear q3n
          refine wp_region_lies (by kernel_rfl) (by kernel_rfl) ?_
          repeat (go_big_quiet_step ((go_at_call 67; exact lies_quiet _ (HGd.out _))))
          refine wpQuiet_nil ?_
          rintro _ ⟨u, rfl⟩
          go_wp2_with fail
          go_ret
          exact ⟨ret_bool (HPf.out (by simp [placeM, HGv.out, HQ.out])), Below.step n12 u.h (Nat.le_refl _)⟩
        have q3z : asd = 0 := Decidable.not_not.1 q3n
        subst q3z
        clear q3n
        cases hgl : gl
        · subst hgl
          by_cases q5n : ¬ (pt = 0)
          · have q5 : (pt == 0) = false := by simpa using q5n
            have HQ : Hid ((pt == 0) = false) := q5
            clear q5n
            refine wp_region_lies (by kernel_rfl) (by kernel_rfl) ?_
            repeat (go_big_quiet_step ((go_at_call 67; exact lies_quiet _ (HGd.out _))))
            refine wpQuiet_nil ?_
            rintro _ ⟨u, rfl⟩
            go_wp2_with fail
            go_ret
            exact ⟨ret_bool (HPf.out (by simp [placeM, HGv.out, HQ.out])), Below.step n12 u.h (Nat.le_refl _)⟩
          have q5z : pt = 0 := Decidable.not_not.1 q5n
          subst q5z
          clear q5n
          refine wp_region_lies (by kernel_rfl) (by kernel_rfl) ?_
          repeat (go_big_quiet_step ((go_at_call 67; exact lies_quiet _ (HGd.out _))))
          refine wpQuiet_nil ?_
          rintro _ ⟨u, rfl⟩
          go_wp2_with fail
          go_roundw
          case rel => exact ⟨k + 1, by omega, by go_num, HPt.out (by simp [placeM]), Below.step hb2 u.h (Nat.le_refl _)⟩
          case measure => simp [intOf]; omega
        · subst hgl
          refine wp_region_lies (by kernel_rfl) (by kernel_rfl) ?_
          repeat (go_big_quiet_step ((go_at_call 67; exact lies_quiet _ (HGd.out _))))
          refine wpQuiet_nil ?_
          rintro _ ⟨u, rfl⟩
          go_wp2_with fail
          go_ret
          exact ⟨ret_bool (HPf.out (by simp [placeM, HGv.out])), Below.step n12 u.h (Nat.le_refl _)⟩
      · cases gd
        · -- not good
          refine wp_region_lies (by kernel_rfl) (by kernel_rfl) ?_
          repeat (go_big_quiet_step ((go_at_call 67; exact lies_quiet _ (HGd.out _))))
          refine wpQuiet_nil ?_
          rintro _ ⟨u, rfl⟩
          go_wp2_with fail
          go_ret
          exact ⟨ret_bool (HPf.out (by simp [placeM, HGv.out])), Below.step n12 u.h (Nat.le_refl _)⟩
        · have htg : tg < 512 := good_tag HGv.out
          have htg0 : 0 ≤ tg := hok.2.1.1
          have hd0 : 0 ≤ (k : Int) / ways := Int.ediv_nonneg (by omega) (by omega)
          have hd1 : (k : Int) / ways ≤ 1048576 := Int.le_trans (Int.ediv_le_self _ (by omega)) (by omega)
          by_cases hq : tg % 4 = (k : Int) / ways
          · have hq' : (tg % 4 != (k : Int) / ways) = false := by rw [bne_eq_false_iff_eq]; exact hq
            have HQ : Hid (tg % 4 = (k : Int) / ways) := hq
            clear hq
            refine wp_region_lies (by kernel_rfl) (by kernel_rfl) ?_
            repeat (go_big_quiet_step ((go_at_call 67; exact lies_quiet _ (HGd.out _))))
            refine wpQuiet_nil ?_
            rintro _ ⟨u, rfl⟩
            go_wp2_with fail
            go_roundw
            case rel => exact ⟨k + 1, by omega, by go_num, HPt.out (by simp [placeM, HGv.out, HQ.out]), Below.step hb2 u.h (Nat.le_refl _)⟩
            case measure => simp [intOf]; omega
          · have hq' : (tg % 4 != (k : Int) / ways) = true := by rw [bne_iff_ne]; exact hq
            have HQ : Hid (¬ tg % 4 = (k : Int) / ways) := hq
            clear hq
            refine wp_region_lies (by kernel_rfl) (by kernel_rfl) ?_
            repeat (go_big_quiet_step ((go_at_call 67; exact lies_quiet _ (HGd.out _))))
            refine wpQuiet_nil ?_
            rintro _ ⟨u, rfl⟩
            go_wp2_with fail
            go_ret
            exact ⟨ret_bool (HPf.out (by simp [placeM, HQ.out])), Below.step n12 u.h (Nat.le_refl _)⟩
    · have hkn : k = n := by omega
      subst hkn
      have HT : Hid (true = R) := by
        show true = R
        rw [← HP.out]
        exact (placesM_true _ p es 0 (fun j x hx => by rw [Nat.zero_add]; exact HA.out j x (by have h1 := (List.getElem?_eq_some_iff.1 hx).1; have h2 := HN.out; omega) hx)).symm
      clear c10 c11 c12 n1 d10 d11
      go_wp2_with fail
      go_ret
      exact ⟨ret_bool HT.out, n1r⟩

end Go.Proofs.Ythekickjjaleaac

/- Plain mathematics of chapter 4: fences, flushing, insertion. No program, no memory. -/
namespace Go.Proofs.Ythekickjjaleaac
set_option linter.unusedVariables false

/-- A fence. -/
structure FenceM where
  hasVa : Bool
  va : Int
  hasAsid : Bool
  asid : Int

/-- The first way from w on, of 'left' ways, whose entry is not valid. -/
def freeM (es : List EntM) (first : Nat) : Nat → Nat → Option Nat
  | _, 0 => none
  | w, left + 1 => if (es[first + w]?.getD ent0).valid = false then some w else freeM es first (w + 1) left

end Go.Proofs.Ythekickjjaleaac

/- The specification's l4Copy: a cache of one's own. -/
namespace Go.Proofs.Ythekickjjaleaac
open Go.RowKit
set_option linter.unusedVariables false
attribute [local go_sem ↓] Go.wp_at_zero Go.wp_at_succ

theorem Try.infoEnt : (Try.prog.info? 91).map (fun i => (i.zero, i.size, i.bytes)) = some (some (.agg #[.bool false, .int .i64 0, .int .u64 0, .int .u64 0, .bool false, .int .u64 0]), 6, 48) := by kernel_rfl

theorem entsC_one : ∀ es : List EntM, ∀ u ∈ entsC es, u.oneCell' = true
  | [], u, h => by simp [entsC] at h
  | e :: r, u, h => by
    simp only [entsC, List.mem_append] at h
    rcases h with h | h
    · simp [entC] at h
      rcases h with rfl | rfl | rfl | rfl | rfl | rfl <;> rfl
    · exact entsC_one r u h

/-- A cache as a value in memory, its entries in a row of one's own. -/
def TlbOwn (base : Nat) (w : World) (v : Value) (t : TlbM) : Prop :=
  ∃ g cap, v = .agg #[.int .i64 t.sets, .int .i64 t.ways, .slice (some ⟨g, 0, none⟩) t.es.length cap] ∧ w.ownsRow base 91 6 (.slice (some ⟨g, 0, none⟩) t.es.length cap) t.es.length (entsC t.es)

theorem TlbOwn.row {base : Nat} {w : World} {v : Value} {t : TlbM} (h : TlbOwn base w v t) : ∃ g cap, v = .agg #[.int .i64 t.sets, .int .i64 t.ways, .slice (some ⟨g, 0, none⟩) t.es.length cap] ∧ RowC w (some ⟨g, 0, none⟩) t.es.length 6 (entsC t.es) ∧ base ≤ g ∧ g < w.heap.size := by
  obtain ⟨g, cap, rfl, ho⟩ := h
  have := own_at ho
  exact ⟨g, cap, rfl, row_own ho, this.2.1, this.2.2⟩

theorem TlbOwn.keep {base : Nat} {w w' : World} {v : Value} {t : TlbM} (h : TlbOwn base w v t) (hb : Below w.heap.size w w') : TlbOwn base w' v t := by
  obtain ⟨g, cap, rfl, ho⟩ := h
  exact ⟨g, cap, rfl, own_below ho hb⟩

/-- The numbers of a cache. -/
def tlbOk (t : TlbM) : Prop :=
  (∀ e ∈ t.es, entOk e) ∧ (-9223372036854775808 ≤ t.sets ∧ t.sets ≤ 9223372036854775807) ∧ (-9223372036854775808 ≤ t.ways ∧ t.ways ≤ 9223372036854775807) ∧ t.es.length ≤ 1048576

theorem TlbAt.ok {w : World} {v : Value} {t : TlbM} (h : TlbAt w v t) : tlbOk t := by
  obtain ⟨a, cap, _, _, h1, h2, h3, h4, _⟩ := h
  exact ⟨h1, h2, h3, h4⟩

theorem TlbOwn.at {base : Nat} {w : World} {v : Value} {t : TlbM} (h : TlbOwn base w v t) (hk : tlbOk t) : TlbAt w v t := by
  obtain ⟨g, cap, rfl, ho⟩ := h
  have hr := row_own ho
  rcases ho.2 with ⟨h2, _⟩ | ⟨g', cap', cur, h2, hb, hg, hc1, hc2, _⟩
  · cases h2
  · cases h2
    exact ⟨some ⟨g, 0, none⟩, cap, rfl, hr, hk.1, hk.2.1, hk.2.2.1, hk.2.2.2, hc1, by unfold maxLen at hc2; omega, (by intro h; cases h), (by intro q hq; cases hq; rfl)⟩

end Go.Proofs.Ythekickjjaleaac
