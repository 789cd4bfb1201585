import Derived.Test.YthekickjjaleaacPack02
import Derived.Test.YthekickjjaleaacPack08
import Derived.Test.YthekickjjaleaacPack05
import Derived.Test.YthekickjjaleaacPack06
import Derived.Test.YthekickjjaleaacPack03
/- The program's chapter 2: lowBits, canonical, index, the entry's methods, Canonical, PteKind, Granted, PhysOf. -/
namespace Go.Proofs.Ythekickjjaleaac
open Go.RowKit
set_option linter.unusedVariables false

theorem lowBits_at (n m : Int) (w : World) (h : (n = 0 ∧ m = 0) ∨ (n = 3 ∧ m = 7) ∨ (n = 6 ∧ m = 63) ∨ (n = 9 ∧ m = 511) ∨ (n = 12 ∧ m = 4095) ∨ (n = 44 ∧ m = 17592186044415) ∨ (n = 50 ∧ m = 1125899906842623) ∨ (n = 15 ∧ m = 32767) ∨ (n = 16 ∧ m = 65535)) :
    Calls Try.prog 85 #[.int .i64 n] w fun e w' => e = .returned (.int .u64 m) ∧ w' = w := by
  rcases h with ⟨rfl, rfl⟩ | ⟨rfl, rfl⟩ | ⟨rfl, rfl⟩ | ⟨rfl, rfl⟩ | ⟨rfl, rfl⟩ | ⟨rfl, rfl⟩ | ⟨rfl, rfl⟩ | ⟨rfl, rfl⟩ | ⟨rfl, rfl⟩
  all_goals
    go_enter Try.func85, Try.ntmps85
    go_wp2_with fail
    go_ret
    exact ⟨rfl, rfl⟩

theorem hasAny_at (x m : Int) (w : World) :
    Calls Try.prog 82 #[.int .u64 x, .int .u64 m] w fun e w' => e = .returned (.bool (anyB x m)) ∧ w' = w := by
  go_enter Try.func82, Try.ntmps82
  go_wp2_with fail
  go_ret
  exact ⟨rfl, rfl⟩

theorem ppn_at (x : Int) (w : World) (h0 : 0 ≤ x) (h1 : x ≤ 18446744073709551615) :
    Calls Try.prog 107 #[.int .u64 x] w fun e w' => e = .returned (.int .u64 (ppnM x)) ∧ w' = w := by
  have H : Hid (bits .and .u64 (x / 1024) 17592186044415 = ppnM x) := mask_u64 44 (x / 1024) 17592186044415 rfl (by omega) (by omega) (by omega)
  go_enter Try.func107, Try.ntmps107
  go_wp2_with (go_at_call 85; refine (lowBits_at 44 17592186044415 _ (by omega)).mono ?_; rintro e w' ⟨rfl, rfl⟩)
  go_ret
  exact ⟨ret_u64 H.out, rfl⟩

theorem beyondPpn_at (x : Int) (w : World) (h0 : 0 ≤ x) (h1 : x ≤ 18446744073709551615) :
    Calls Try.prog 106 #[.int .u64 x] w fun e w' => e = .returned (.int .u64 (x / 18014398509481984 % 1024)) ∧ w' = w := by
  have H : Hid (x / 18014398509481984 = x / 18014398509481984 % 1024) := show _ = _ by omega
  go_enter Try.func106, Try.ntmps106
  go_wp2_with fail
  go_ret
  exact ⟨ret_u64 H.out, rfl⟩

def soundM (x : Int) : Bool := bitB x 1 && (x / 18014398509481984 % 1024 == 0) && !(bitB x 4 && !bitB x 2)

theorem sound_at (x : Int) (w : World) (h0 : 0 ≤ x) (h1 : x ≤ 18446744073709551615) :
    Calls Try.prog 104 #[.int .u64 x] w fun e w' => e = .returned (.bool (soundM x)) ∧ w' = w := by
  have HV : Hid (anyB x 1 = bitB x 1) := anyB_bit 0 x 1 rfl (by omega) h0 h1
  have HR : Hid (anyB x 2 = bitB x 2) := anyB_bit 1 x 2 rfl (by omega) h0 h1
  have HW : Hid (anyB x 4 = bitB x 4) := anyB_bit 2 x 4 rfl (by omega) h0 h1
  cases hw : bitB x 4 <;> cases hr : bitB x 2 <;> cases hv : bitB x 1
  all_goals
    go_enter Try.func104, Try.ntmps104
    go_wp2_with (first
      | (go_at_call 82; refine (hasAny_at x _ _).mono ?_; rintro e w' ⟨rfl, rfl⟩; first | rw [HW.out, hw] | rw [HR.out, hr] | rw [HV.out, hv])
      | (go_at_call 106; refine (beyondPpn_at x _ h0 h1).mono ?_; rintro e w' ⟨rfl, rfl⟩))
    all_goals
      go_ret
      exact ⟨ret_bool (by simp [soundM, hw, hr, hv]; try assumption), rfl⟩

theorem aligned_at (x level : Int) (w : World) (h0 : 0 ≤ x) (h1 : x ≤ 18446744073709551615) (hl : level = 0 ∨ level = 1 ∨ level = 2) :
    Calls Try.prog 105 #[.int .u64 x, .int .i64 level] w fun e w' => e = .returned (.bool (ppnM x % pow3 level == 0)) ∧ w' = w := by
  have hpp : 0 ≤ ppnM x ∧ ppnM x < 17592186044416 := ⟨Int.emod_nonneg _ (by omega), Int.emod_lt_of_pos _ (by omega)⟩
  have HP : ∀ w, Hid (Calls Try.prog 107 #[.int .u64 x] w fun e w' => e = .returned (.int .u64 (ppnM x)) ∧ w' = w) := fun w => ppn_at x w h0 h1
  generalize ppnM x = p at *
  rcases hl with rfl | rfl | rfl
  · have H : Hid ((bits .and .u64 p 0 == 0) = (p % pow3 0 == 0)) := by
      show _ = _
      rw [mask_u64 0 p 0 rfl (by omega) hpp.1 (by omega)]; rfl
    go_enter Try.func105, Try.ntmps105
    go_wp2_with (first
      | (go_at_call 107; refine ((HP _).out).mono ?_; rintro e w' ⟨rfl, rfl⟩)
      | (go_at_call 85; refine (lowBits_at 0 0 _ (by omega)).mono ?_; rintro e w' ⟨rfl, rfl⟩))
    go_ret
    exact ⟨ret_bool H.out, rfl⟩
  · have H : Hid ((bits .and .u64 p 7 == 0) = (p % pow3 1 == 0)) := by
      show _ = _
      rw [mask_u64 3 p 7 rfl (by omega) hpp.1 (by omega)]; rfl
    go_enter Try.func105, Try.ntmps105
    go_wp2_with (first
      | (go_at_call 107; refine ((HP _).out).mono ?_; rintro e w' ⟨rfl, rfl⟩)
      | (go_at_call 85; refine (lowBits_at 3 7 _ (by omega)).mono ?_; rintro e w' ⟨rfl, rfl⟩))
    go_ret
    exact ⟨ret_bool H.out, rfl⟩
  · have H : Hid ((bits .and .u64 p 63 == 0) = (p % pow3 2 == 0)) := by
      show _ = _
      rw [mask_u64 6 p 63 rfl (by omega) hpp.1 (by omega)]; rfl
    go_enter Try.func105, Try.ntmps105
    go_wp2_with (first
      | (go_at_call 107; refine ((HP _).out).mono ?_; rintro e w' ⟨rfl, rfl⟩)
      | (go_at_call 85; refine (lowBits_at 6 63 _ (by omega)).mono ?_; rintro e w' ⟨rfl, rfl⟩))
    go_ret
    exact ⟨ret_bool H.out, rfl⟩

theorem knownLevel_at (l : Int) (w : World) :
    Calls Try.prog 80 #[.int .i64 l] w fun e w' => e = .returned (.bool (decide (0 ≤ l ∧ l ≤ 2))) ∧ w' = w := by
  by_cases h : 0 ≤ l
  · go_enter Try.func80, Try.ntmps80
    go_wp2_with fail
    go_ret
    exact ⟨ret_bool (by simp [h]), rfl⟩
  · go_enter Try.func80, Try.ntmps80
    go_wp2_with fail
    go_ret
    exact ⟨ret_bool (by simp; omega), rfl⟩

set_option maxHeartbeats 800000 in
theorem kind_at (x level : Int) (w : World) (h0 : 0 ≤ x) (h1 : x ≤ 18446744073709551615) :
    Calls Try.prog 103 #[.int .u64 x, .int .i64 level] w fun e w' => e = .returned (.int .i64 (kindM x level)) ∧ w' = w := by
  by_cases hlev : 0 ≤ level ∧ level ≤ 2
  · have hk : decide (0 ≤ level ∧ level ≤ 2) = true := by simpa using hlev
    have HK : Hid (decide (0 ≤ level ∧ level ≤ 2) = true) := hk
    have hl : level = 0 ∨ level = 1 ∨ level = 2 := by omega
    clear hk hlev
    have HR : Hid (anyB x 14 = (bitB x 2 || bitB x 4 || bitB x 8)) := anyB_rwx x h0 h1
    have HU : Hid (anyB x 208 = (bitB x 16 || bitB x 64 || bitB x 128)) := anyB_uad x h0 h1
    cases hs : soundM x
    · have HE : Hid (kindM x level = 0) := by
        show _ = _
        simp only [kindM]
        rw [if_pos]
        simp only [soundM] at hs
        cases hv : bitB x 1
        · simp
        · rw [hv] at hs
          by_cases hb : 0 < x / 18014398509481984 % 1024
          · simp [hb]
          · have hb' : x / 18014398509481984 % 1024 = 0 := by omega
            rw [hb'] at hs ⊢
            simp at hs
            simp [hs]
      go_enter Try.func103, Try.ntmps103
      go_wp2_with (first
        | (go_at_call 80; refine (knownLevel_at level _).mono ?_; rintro e w' ⟨rfl, rfl⟩; rw [HK.out])
        | (go_at_call 104; refine (sound_at x _ h0 h1).mono ?_; rintro e w' ⟨rfl, rfl⟩; rw [hs]))
      go_ret
      exact ⟨ret_i64 HE.out.symm, rfl⟩
    · have hn : ¬ (level < 0 ∨ 2 < level ∨ bitB x 1 = false ∨ 0 < x / 18014398509481984 % 1024 ∨ (bitB x 4 = true ∧ bitB x 2 = false)) := by
        simp only [soundM, Bool.and_eq_true, beq_iff_eq, Bool.not_eq_true', Bool.and_eq_false_iff, Bool.not_eq_false'] at hs
        obtain ⟨⟨a1, a2⟩, a3⟩ := hs
        rw [a1, a2]
        rcases a3 with a3 | a3
        · simp [a3]; omega
        · simp [a3]; omega
      have HE : Hid (kindM x level = if bitB x 2 = false ∧ bitB x 4 = false ∧ bitB x 8 = false then (if level = 0 ∨ bitB x 16 = true ∨ bitB x 64 = true ∨ bitB x 128 = true then 0 else 1) else if 0 < ppnM x % pow3 level then 0 else 2) := by
        show _ = _
        rw [kindM, if_neg hn]
      clear hn
      cases hr : (bitB x 2 || bitB x 4 || bitB x 8)
      · simp only [Bool.or_eq_false_iff] at hr
        have HE2 : Hid (kindM x level = if level = 0 ∨ bitB x 16 = true ∨ bitB x 64 = true ∨ bitB x 128 = true then 0 else 1) := by
          show _ = _
          rw [HE.out, if_pos ⟨hr.1.1, hr.1.2, hr.2⟩]
        clear HE
        have HR' : Hid (anyB x 14 = false) := by show _ = _; rw [HR.out, hr.1.1, hr.1.2, hr.2]; rfl
        clear HR hr
        by_cases hz : level = 0
        · subst hz
          go_enter Try.func103, Try.ntmps103
          go_wp2_with (first
            | (go_at_call 80; refine (knownLevel_at 0 _).mono ?_; rintro e w' ⟨rfl, rfl⟩; rw [HK.out])
            | (go_at_call 104; refine (sound_at x _ h0 h1).mono ?_; rintro e w' ⟨rfl, rfl⟩; rw [hs])
            | (go_at_call 82; refine (hasAny_at x _ _).mono ?_; rintro e w' ⟨rfl, rfl⟩; rw [HR'.out]))
          go_ret
          exact ⟨ret_i64 (by rw [HE2.out]; simp), rfl⟩
        · have hz' : (level == 0) = false := by simpa using hz
          cases hu : (bitB x 16 || bitB x 64 || bitB x 128)
          · have HE3 : Hid (kindM x level = 1) := by
              show _ = _
              simp only [Bool.or_eq_false_iff] at hu
              rw [HE2.out, hu.1.1, hu.1.2, hu.2]
              simp [hz]
            go_enter Try.func103, Try.ntmps103
            go_wp2_with (first
              | (go_at_call 80; refine (knownLevel_at level _).mono ?_; rintro e w' ⟨rfl, rfl⟩; rw [HK.out])
              | (go_at_call 104; refine (sound_at x _ h0 h1).mono ?_; rintro e w' ⟨rfl, rfl⟩; rw [hs])
              | (go_at_call 82; refine (hasAny_at x _ _).mono ?_; rintro e w' ⟨rfl, rfl⟩; first | rw [HR'.out] | rw [HU.out, hu]))
            go_ret
            exact ⟨ret_i64 HE3.out.symm, rfl⟩
          · have HE3 : Hid (kindM x level = 0) := by
              show _ = _
              simp only [Bool.or_eq_true] at hu
              rw [HE2.out, if_pos]
              rcases hu with (hu | hu) | hu <;> simp [hu]
            go_enter Try.func103, Try.ntmps103
            go_wp2_with (first
              | (go_at_call 80; refine (knownLevel_at level _).mono ?_; rintro e w' ⟨rfl, rfl⟩; rw [HK.out])
              | (go_at_call 104; refine (sound_at x _ h0 h1).mono ?_; rintro e w' ⟨rfl, rfl⟩; rw [hs])
              | (go_at_call 82; refine (hasAny_at x _ _).mono ?_; rintro e w' ⟨rfl, rfl⟩; first | rw [HR'.out] | rw [HU.out, hu]))
            go_ret
            exact ⟨ret_i64 HE3.out.symm, rfl⟩
      · have HR' : Hid (anyB x 14 = true) := by show _ = _; rw [HR.out, hr]
        have HE2 : Hid (kindM x level = if 0 < ppnM x % pow3 level then 0 else 2) := by
          show _ = _
          rw [HE.out, if_neg]
          rintro ⟨q1, q2, q3⟩
          rw [q1, q2, q3] at hr
          cases hr
        clear HE HR hr
        have hnn : 0 ≤ ppnM x % pow3 level := by
          apply Int.emod_nonneg
          rcases hl with rfl | rfl | rfl <;> decide
        cases ha : (ppnM x % pow3 level == 0)
        · have HE3 : Hid (kindM x level = 0) := by
            show _ = _
            have : ppnM x % pow3 level ≠ 0 := by simpa using ha
            rw [HE2.out, if_pos (by omega)]
          clear hnn
          go_enter Try.func103, Try.ntmps103
          go_wp2_with (first
            | (go_at_call 80; refine (knownLevel_at level _).mono ?_; rintro e w' ⟨rfl, rfl⟩; rw [HK.out])
            | (go_at_call 104; refine (sound_at x _ h0 h1).mono ?_; rintro e w' ⟨rfl, rfl⟩; rw [hs])
            | (go_at_call 82; refine (hasAny_at x _ _).mono ?_; rintro e w' ⟨rfl, rfl⟩; rw [HR'.out])
            | (go_at_call 105; refine (aligned_at x level _ h0 h1 hl).mono ?_; rintro e w' ⟨rfl, rfl⟩; rw [ha]))
          go_ret
          exact ⟨ret_i64 HE3.out.symm, rfl⟩
        · have HE3 : Hid (kindM x level = 2) := by
            show _ = _
            have : ppnM x % pow3 level = 0 := by simpa using ha
            rw [HE2.out, if_neg (by omega)]
          clear hnn
          go_enter Try.func103, Try.ntmps103
          go_wp2_with (first
            | (go_at_call 80; refine (knownLevel_at level _).mono ?_; rintro e w' ⟨rfl, rfl⟩; rw [HK.out])
            | (go_at_call 104; refine (sound_at x _ h0 h1).mono ?_; rintro e w' ⟨rfl, rfl⟩; rw [hs])
            | (go_at_call 82; refine (hasAny_at x _ _).mono ?_; rintro e w' ⟨rfl, rfl⟩; rw [HR'.out])
            | (go_at_call 105; refine (aligned_at x level _ h0 h1 hl).mono ?_; rintro e w' ⟨rfl, rfl⟩; rw [ha]))
          go_ret
          exact ⟨ret_i64 HE3.out.symm, rfl⟩
  · have HK : Hid (decide (0 ≤ level ∧ level ≤ 2) = false) := by show _ = _; simpa using hlev
    have HE : Hid (kindM x level = 0) := by
      show _ = _
      rw [kindM, if_pos (by omega)]
    clear hlev
    go_enter Try.func103, Try.ntmps103
    go_wp2_with (go_at_call 80; refine (knownLevel_at level _).mono ?_; rintro e w' ⟨rfl, rfl⟩; rw [HK.out])
    go_ret
    exact ⟨ret_i64 HE.out.symm, rfl⟩

end Go.Proofs.Ythekickjjaleaac

/- The program's walk from a level on: walkFrom. -/
namespace Go.Proofs.Ythekickjjaleaac
open Go.RowKit
set_option linter.unusedVariables false

def preM (acc : List RecM) (r : Int × Int × Int × List RecM) : Int × Int × Int × List RecM := (r.1, r.2.1, r.2.2.1, acc ++ r.2.2.2)

theorem fromM_out (zs : List Int) (va : Int) (k : Nat) (n : Int) (h : goodB zs.length (64 * n + 8 * idxM va k) 8 = false) : fromM zs va k n = (3, (k : Int), 0, []) := by
  unfold fromM
  rw [if_pos h]
theorem fromM_bad (zs : List Int) (va : Int) (k : Nat) (n : Int) (h : goodB zs.length (64 * n + 8 * idxM va k) 8 = true) (hk : kindM (rdV zs (64 * n + 8 * idxM va k) 8) k = 0) : fromM zs va k n = (2, (k : Int), 0, []) := by
  unfold fromM
  rw [if_neg (by rw [h]; simp), if_pos hk]
theorem fromM_leaf (zs : List Int) (va : Int) (k : Nat) (n : Int) (h : goodB zs.length (64 * n + 8 * idxM va k) 8 = true) (hk : kindM (rdV zs (64 * n + 8 * idxM va k) 8) k = 2) : fromM zs va k n = (1, (k : Int), rdV zs (64 * n + 8 * idxM va k) 8, [((k : Int), 64 * n + 8 * idxM va k, rdV zs (64 * n + 8 * idxM va k) 8)]) := by
  unfold fromM
  rw [if_neg (by rw [h]; simp), if_neg (by rw [hk]; decide), if_pos hk]
theorem fromM_next (zs : List Int) (va : Int) (k : Nat) (n : Int) (h : goodB zs.length (64 * n + 8 * idxM va ((k + 1 : Nat) : Int)) 8 = true) (hk : kindM (rdV zs (64 * n + 8 * idxM va ((k + 1 : Nat) : Int)) 8) ((k + 1 : Nat) : Int) = 1) :
    fromM zs va (k + 1) n = preM [(((k + 1 : Nat) : Int), 64 * n + 8 * idxM va ((k + 1 : Nat) : Int), rdV zs (64 * n + 8 * idxM va ((k + 1 : Nat) : Int)) 8)] (fromM zs va k (ppnM (rdV zs (64 * n + 8 * idxM va ((k + 1 : Nat) : Int)) 8))) := by
  rw [fromM, if_neg (by rw [h]; simp), if_neg (by rw [hk]; decide), if_neg (by rw [hk]; decide)]
  rfl

end Go.Proofs.Ythekickjjaleaac

/- Plain mathematics of chapter 4: where the entry that is found stands. -/
namespace Go.Proofs.Ythekickjjaleaac
set_option linter.unusedVariables false

theorem tagM_lim (va l : Int) (hl : l = 0 ∨ l = 1 ∨ l = 2) : 0 ≤ tagM va l ∧ tagM va l ≤ 511 := by
  rcases hl with rfl | rfl | rfl <;> simp only [tagM] <;> (try simp) <;> omega

theorem findL_get (va asid l : Int) : ∀ (es : List EntM) (i k : Nat) (x : EntM), findL va asid l i es = some (k, x) → ∃ j, k = i + j ∧ es[j]? = some x ∧ hitB va asid l x = true
  | [], i, k, x, h => by cases h
  | e :: r, i, k, x, h => by
    rw [findL] at h
    split at h
    · rename_i hh
      cases h
      exact ⟨0, rfl, rfl, hh⟩
    · obtain ⟨j, rfl, h2, h3⟩ := findL_get va asid l r (i + 1) k x h
      exact ⟨j + 1, by omega, by simpa using h2, h3⟩

/-- What is found is an entry of the cache. -/
theorem hit_get (t : TlbM) (va asid : Int) (h : (hitM t va asid).1 = true) : ∃ (k : Nat) (x : EntM), t.es[k]? = some x ∧ (hitM t va asid).2.1 = (k : Int) ∧ (hitM t va asid).2.2.1 = x.level ∧ (hitM t va asid).2.2.2 = x.pte ∧ fitsM x va asid = true ∧ x.valid = true := by
  have key : ∀ (l : Int) (k : Nat) (x : EntM), findL va asid l 0 t.es = some (k, x) → t.es[k]? = some x ∧ l = x.level ∧ fitsM x va asid = true ∧ x.valid = true := by
    intro l k x hf
    obtain ⟨j, rfl, h2, h3⟩ := findL_get va asid l t.es 0 k x hf
    simp only [hitB, Bool.and_eq_true, beq_iff_eq] at h3
    have hv : x.valid = true := by
      have := h3.2
      simp only [fitsM, Bool.and_eq_true] at this
      exact this.1.1
    exact ⟨by rw [Nat.zero_add]; exact h2, h3.1.symm, h3.2, hv⟩
  unfold hitM at h ⊢
  split at h
  · cases h
  · rename_i he
    rw [if_neg he]
    cases h0 : findL va asid 0 0 t.es with
    | some y =>
      obtain ⟨k, x⟩ := y
      obtain ⟨a1, a2, a3, a4⟩ := key 0 k x h0
      exact ⟨k, x, a1, by simp [hitOf], by simp [hitOf, ← a2], by simp [hitOf], a3, a4⟩
    | none =>
      cases h1 : findL va asid 1 0 t.es with
      | some y =>
        obtain ⟨k, x⟩ := y
        obtain ⟨a1, a2, a3, a4⟩ := key 1 k x h1
        exact ⟨k, x, a1, by simp [hitOf], by simp [hitOf, ← a2], by simp [hitOf], a3, a4⟩
      | none =>
        cases h2 : findL va asid 2 0 t.es with
        | some y =>
          obtain ⟨k, x⟩ := y
          obtain ⟨a1, a2, a3, a4⟩ := key 2 k x h2
          exact ⟨k, x, a1, by simp [hitOf], by simp [hitOf, ← a2], by simp [hitOf], a3, a4⟩
        | none =>
          rw [h0, h1, h2] at h
          simp [hitOf] at h

end Go.Proofs.Ythekickjjaleaac

/- Plain mathematics of chapter 4: the records of a walk, the pointers among them. -/
namespace Go.Proofs.Ythekickjjaleaac
set_option linter.unusedVariables false

/-- The records of a walk: pointers, and a leaf behind them where one is met. -/
def Split (r : Int × Int × Int × List RecM) (k : Nat) (ps : List RecM) : Prop :=
  (∀ p ∈ ps, kindM p.2.2 p.1 = 1 ∧ 0 ≤ p.1 ∧ p.1 ≤ k ∧ 0 ≤ p.2.2 ∧ p.2.2 ≤ 18446744073709551615) ∧
  ((r.1 = 1 ∧ (∃ ad, r.2.2.2 = ps ++ [(r.2.1, ad, r.2.2.1)]) ∧ kindM r.2.2.1 r.2.1 = 2 ∧ 0 ≤ r.2.1 ∧ r.2.1 ≤ k ∧ 0 ≤ r.2.2.1 ∧ r.2.2.1 ≤ 18446744073709551615) ∨ ((r.1 = 2 ∨ r.1 = 3) ∧ r.2.2.2 = ps ∧ r.2.2.1 = 0))

theorem fromM_split (zs : List Int) (va : Int) (hz : ∀ i : Nat, 0 ≤ zs[i]?.getD 0 ∧ zs[i]?.getD 0 ≤ 255) : ∀ (k : Nat) (n : Int), ∃ ps, Split (fromM zs va k n) k ps ∧ ps.length ≤ k
  | k, n => by
    cases hg : goodB zs.length (64 * n + 8 * idxM va k) 8
    · rw [fromM_out zs va k n hg]
      exact ⟨[], ⟨by simp, .inr ⟨.inr rfl, rfl, rfl⟩⟩, by simp⟩
    · have hb := rdV_bd zs (64 * n + 8 * idxM va k) 8 (by omega) hz
      rcases kindM_012 (rdV zs (64 * n + 8 * idxM va k) 8) (k : Int) with hk | hk | hk
      · rw [fromM_bad zs va k n hg hk]
        exact ⟨[], ⟨by simp, .inr ⟨.inl rfl, rfl, rfl⟩⟩, by simp⟩
      · cases k with
        | zero => exact absurd hk (kindM_zero _)
        | succ k' =>
          rw [fromM_next zs va k' n hg hk]
          obtain ⟨ps, ⟨h1, h2⟩, h3⟩ := fromM_split zs va hz k' (ppnM (rdV zs (64 * n + 8 * idxM va ((k' + 1 : Nat) : Int)) 8))
          refine ⟨(((k' + 1 : Nat) : Int), 64 * n + 8 * idxM va ((k' + 1 : Nat) : Int), rdV zs (64 * n + 8 * idxM va ((k' + 1 : Nat) : Int)) 8) :: ps, ⟨?_, ?_⟩, by simp; omega⟩
          · intro p hp
            rcases List.mem_cons.1 hp with rfl | hp
            · exact ⟨hk, by simp only; omega, by simp only; omega, hb.1, hb.2⟩
            · obtain ⟨q1, q2, q3, q4⟩ := h1 p hp
              exact ⟨q1, q2, by omega, q4⟩
          · simp only [preM]
            rcases h2 with ⟨e1, ⟨ad, e2⟩, e3, e4, e5, e6⟩ | ⟨e1, e2, e3⟩
            · exact .inl ⟨e1, ⟨ad, by rw [e2]; rfl⟩, e3, e4, by omega, e6⟩
            · exact .inr ⟨e1, by rw [e2]; rfl, e3⟩
      · rw [fromM_leaf zs va k n hg hk]
        exact ⟨[], ⟨by simp, .inl ⟨rfl, ⟨_, rfl⟩, hk, by simp only; omega, Int.le_refl _, hb.1, hb.2⟩⟩, by simp⟩

theorem walkM_split (zs : List Int) (root va : Int) (hz : ∀ i : Nat, 0 ≤ zs[i]?.getD 0 ∧ zs[i]?.getD 0 ≤ 255) : ∃ ps, Split (walkM zs root va) 2 ps ∧ ps.length ≤ 2 := by
  unfold walkM
  split
  · exact ⟨[], ⟨by simp, .inr ⟨.inl rfl, rfl, rfl⟩⟩, by simp⟩
  · exact fromM_split zs va hz 2 _

theorem split_mono {r : Int × Int × Int × List RecM} {k k' : Nat} {ps : List RecM} (h : Split r k ps) (hk : k ≤ k') : Split r k' ps := by
  obtain ⟨h1, h2⟩ := h
  refine ⟨fun p hp => ?_, ?_⟩
  · obtain ⟨q1, q2, q3, q4⟩ := h1 p hp
    exact ⟨q1, q2, by omega, q4⟩
  · rcases h2 with ⟨e1, e2, e3, e4, e5, e6⟩ | h2
    · exact .inl ⟨e1, e2, e3, e4, by omega, e6⟩
    · exact .inr h2

theorem resumeM_split (zs : List Int) (satp va : Int) (t : TlbM) (asid : Int) (ht : validM t true = true) (hz : ∀ i : Nat, 0 ≤ zs[i]?.getD 0 ∧ zs[i]?.getD 0 ≤ 255) : ∃ ps, Split (resumeM zs satp va (hitM t va asid)) 2 ps ∧ ps.length ≤ 2 := by
  unfold resumeM
  split
  · rename_i hf
    obtain ⟨q, x, h1, h2, h3, h4, h5, h6⟩ := hit_get t va asid hf
    have hl := either_level (either_of ht) q x h1 h6
    have hle : ((hitM t va asid).2.2.1 - 1).toNat ≤ 2 := by rw [h3]; omega
    obtain ⟨ps, a1, a2⟩ := fromM_split zs va hz ((hitM t va asid).2.2.1 - 1).toNat (ppnM (hitM t va asid).2.2.2)
    exact ⟨ps, split_mono a1 hle, by omega⟩
  · exact walkM_split zs satp va hz

theorem insert_len (t : TlbM) (e : EntM) (pick : Int) : (insertM t e pick).es.length = t.es.length ∧ (insertM t e pick).sets = t.sets ∧ (insertM t e pick).ways = t.ways := by
  unfold insertM
  split
  · simp
  · exact ⟨rfl, rfl, rfl⟩

end Go.Proofs.Ythekickjjaleaac

/- Bounds of what a look-up finds, from the bounds of a cache's entries. -/
namespace Go.Proofs.Ythekickjjaleaac

theorem hit_lim (t : TlbM) (va asid : Int) (he : ∀ e ∈ t.es, entOk e) (h : (hitM t va asid).1 = true) : (0 ≤ (hitM t va asid).2.2.2 ∧ (hitM t va asid).2.2.2 ≤ 18446744073709551615) ∧ (-9223372036854775808 ≤ (hitM t va asid).2.2.1 ∧ (hitM t va asid).2.2.1 ≤ 9223372036854775807) := by
  obtain ⟨k, x, hx, _, hl, hp, _⟩ := hit_get t va asid h
  have hk := he x (List.mem_of_getElem? hx)
  rw [hl, hp]
  exact ⟨hk.2.2.2, hk.1⟩

end Go.Proofs.Ythekickjjaleaac

/- What a walk that goes on from a kept pointer gives: bounds. Plain functions. -/
namespace Go.Proofs.Ythekickjjaleaac
set_option linter.unusedVariables false

theorem walkM_len (zs : List Int) (root va : Int) : (walkM zs root va).2.2.2.length ≤ 3 := by
  unfold walkM
  split
  · simp
  · exact fromM_len zs va 2 _

/-- Bounds of what a walk gives. -/
structure WalkLim (r : Int × Int × Int × List RecM) : Prop where
  len : r.2.2.2.length ≤ 3
  pte : 0 ≤ r.2.2.1 ∧ r.2.2.1 ≤ 18446744073709551615
  level : 0 ≤ r.2.1 ∧ r.2.1 ≤ 2
  recs : ∀ x ∈ r.2.2.2, (0 ≤ x.1 ∧ x.1 ≤ 2) ∧ 0 ≤ x.2.2 ∧ x.2.2 ≤ 18446744073709551615

theorem split_recs {r : Int × Int × Int × List RecM} {ps : List RecM} (h : Split r 2 ps) : ∀ x ∈ r.2.2.2, (0 ≤ x.1 ∧ x.1 ≤ 2) ∧ 0 ≤ x.2.2 ∧ x.2.2 ≤ 18446744073709551615 := by
  obtain ⟨h1, h2⟩ := h
  intro x hx
  rcases h2 with ⟨_, ⟨ad, e⟩, _, e4, e5, e6, e7⟩ | ⟨_, e, _⟩
  · rw [e] at hx
    rcases List.mem_append.1 hx with hx | hx
    · obtain ⟨_, q2, q3, q4, q5⟩ := h1 x hx
      exact ⟨⟨q2, by omega⟩, q4, q5⟩
    · have : x = (r.2.1, ad, r.2.2.1) := by simpa using hx
      subst this
      exact ⟨⟨e4, by omega⟩, e6, e7⟩
  · rw [e] at hx
    obtain ⟨_, q2, q3, q4, q5⟩ := h1 x hx
    exact ⟨⟨q2, by omega⟩, q4, q5⟩

theorem resume_facts (zs : List Int) (satp va : Int) (t : TlbM) (asid : Int) (ht : validM t true = true) (he : ∀ e ∈ t.es, entOk e) (hz : ∀ i : Nat, 0 ≤ zs[i]?.getD 0 ∧ zs[i]?.getD 0 ≤ 255) :
    ((hitM t va asid).1 = true → ∃ l : Nat, (hitM t va asid).2.2.1 = (l : Int) + 1 ∧ l ≤ 1 ∧ 0 ≤ (hitM t va asid).2.2.2 ∧ (hitM t va asid).2.2.2 ≤ 18446744073709551615 ∧ resumeM zs satp va (hitM t va asid) = fromM zs va l (ppnM (hitM t va asid).2.2.2)) ∧
    ((hitM t va asid).1 = false → resumeM zs satp va (hitM t va asid) = walkM zs satp va) ∧ WalkLim (resumeM zs satp va (hitM t va asid)) := by
  obtain ⟨ps, hs, _⟩ := resumeM_split zs satp va t asid ht hz
  cases hf : (hitM t va asid).1
  · have e : resumeM zs satp va (hitM t va asid) = walkM zs satp va := by rw [resumeM, if_neg (by rw [hf]; simp)]
    have hb := walkM_bd zs satp va hz
    refine ⟨fun h => (by cases h), fun _ => e, ?_⟩
    have hr := split_recs hs
    rw [e] at hr ⊢
    exact ⟨walkM_len zs satp va, ⟨hb.1, hb.2.1⟩, hb.2.2, hr⟩
  · obtain ⟨q, x, h1, h2, h3, h4, h5, h6⟩ := hit_get t va asid hf
    have hl := either_level (either_of ht) q x h1 h6
    have hpl := place_of ht q x h1
    have hlim := (hit_lim t va asid he hf).1
    have hk1 : x.level ≠ 0 := by
      intro h0
      have hg : goodEntM x true = true := by
        simp only [placeM, Bool.or_eq_true, Bool.and_eq_true] at hpl
        have h7 : goodEntM x true = true ∧ x.tag % t.sets = q / t.ways := by simpa [h6] using hpl
        exact h7.1
      have := good_kind hg
      rw [h0] at this
      exact kindM_zero _ this
    have e : resumeM zs satp va (hitM t va asid) = fromM zs va ((hitM t va asid).2.2.1 - 1).toNat (ppnM (hitM t va asid).2.2.2) := by rw [resumeM, if_pos hf]
    have hb := fromM_bd zs va hz ((hitM t va asid).2.2.1 - 1).toNat (ppnM (hitM t va asid).2.2.2) (by rw [h3]; omega)
    refine ⟨fun _ => ⟨((hitM t va asid).2.2.1 - 1).toNat, by rw [h3]; omega, by rw [h3]; omega, hlim.1, hlim.2, e⟩, fun h => (by cases h), ?_⟩
    have hr := split_recs hs
    have hln := fromM_len zs va ((hitM t va asid).2.2.1 - 1).toNat (ppnM (hitM t va asid).2.2.2)
    rw [e] at hr ⊢
    exact ⟨by rw [h3] at hln ⊢; omega, ⟨hb.1, hb.2.1⟩, hb.2.2, hr⟩

end Go.Proofs.Ythekickjjaleaac

/- Bounds of what is kept in a cache; the pointers of a walk, one by one. Plain functions. -/
namespace Go.Proofs.Ythekickjjaleaac
set_option linter.unusedVariables false

theorem entM_ok (level va satp pte : Int) (hl : 0 ≤ level ∧ level ≤ 2) (hp : 0 ≤ pte ∧ pte ≤ 18446744073709551615) : entOk (entM level va satp pte) := by
  have ht := tagM_lim va level (by omega)
  refine ⟨⟨by simp only [entM]; omega, by simp only [entM]; omega⟩, ⟨ht.1, ?_⟩, ?_, hp⟩
  · simp only [entM]; omega
  · simp only [entM, asidM]; omega

theorem insert_ok {t : TlbM} {e : EntM} (pick : Int) (ht : tlbOk t) (he : entOk e) : tlbOk (insertM t e pick) := by
  obtain ⟨l1, l2, l3⟩ := insert_len t e pick
  obtain ⟨h1, h2, h3, h4⟩ := ht
  refine ⟨?_, by rw [l2]; exact h2, by rw [l3]; exact h3, by rw [l1]; exact h4⟩
  unfold insertM
  split
  · intro x hx
    simp only at hx
    rcases List.mem_or_eq_of_mem_set hx with hx | rfl
    · exact h1 x hx
    · exact he
  · exact h1

theorem ptrs_ok (va satp pick : Int) : ∀ (rs : List RecM) (p : TlbM), tlbOk p → (∀ x ∈ rs, (0 ≤ x.1 ∧ x.1 ≤ 2) ∧ 0 ≤ x.2.2 ∧ x.2.2 ≤ 18446744073709551615) → tlbOk (ptrsM va satp pick rs p)
  | [], p, h, _ => h
  | r :: rs, p, h, hx => by
    rw [ptrsM]
    refine ptrs_ok va satp pick rs _ ?_ fun x hx' => hx x (List.mem_cons_of_mem _ hx')
    have hr := hx r (List.mem_cons_self ..)
    split
    · exact insert_ok pick h (entM_ok _ _ _ _ hr.1 hr.2)
    · exact h

end Go.Proofs.Ythekickjjaleaac

/- Plain mathematics of chapter 5: a valid hart stays valid, and its numbers stay in their kinds. No program, no memory. -/
namespace Go.Proofs.Ythekickjjaleaac
set_option linter.unusedVariables false

def bytesOk (zs : List Int) : Prop := ∀ i : Nat, 0 ≤ zs[i]?.getD 0 ∧ zs[i]?.getD 0 ≤ 255
def numsOk (zs : List Int) : Prop := ∀ i : Nat, 0 ≤ zs[i]?.getD 0 ∧ zs[i]?.getD 0 ≤ 18446744073709551615
def inU (x : Int) : Prop := 0 ≤ x ∧ x ≤ 18446744073709551615
def kOk (k : KM) : Prop := tlbOk k.i ∧ tlbOk k.d ∧ tlbOk k.p

/-- A valid hart whose numbers lie in their kinds. -/
structure HOk (h : HartM) : Prop where
  valid : validHM h = true
  mem : bytesOk h.mem
  regs : numsOk h.regs
  pc : inU h.pc
  satp : inU h.satp
  tvec : inU h.tvec
  epc : inU h.epc
  tval : inU h.tval
  ks : kOk h.k

/-- A run of which the same holds. -/
structure ROk (r : RunM) : Prop where
  h : HOk r.h
  cause : 0 ≤ r.cause ∧ r.cause ≤ 63
  tval : inU r.tval
  looks : ∀ l ∈ r.looks, (0 ≤ l.1 ∧ l.1 ≤ 2) ∧ inU l.2
  fva : inU r.fence.va
  fas : inU r.fence.asid

structure VH (h : HartM) : Prop where
  size : sizeM h.mem.length = true
  regs : h.regs.length = 8
  zero : h.regs[0]?.getD 0 = 0
  mode : 0 ≤ h.mode ∧ h.mode ≤ 2
  emode : 0 ≤ h.emode ∧ h.emode ≤ 2
  satp : schemeM h.satp = true
  tvec : h.tvec % 4 = 0
  cause : 0 ≤ h.cause ∧ h.cause ≤ 63
  ks : goodKM h.k = true

theorem valid_iff (h : HartM) : validHM h = true ↔ VH h := by
  simp only [validHM, plainHM, Bool.and_eq_true, decide_eq_true_eq, beq_iff_eq]
  constructor
  · rintro ⟨⟨a, ⟨⟨⟨⟨⟨⟨b, c⟩, d⟩, e⟩, f⟩, g⟩, i⟩⟩, j⟩
    exact ⟨a, b, c, d, e, f, g, i, j⟩
  · rintro ⟨a, b, c, d, e, f, g, i, j⟩
    exact ⟨⟨a, ⟨⟨⟨⟨⟨⟨b, c⟩, d⟩, e⟩, f⟩, g⟩, i⟩⟩, j⟩

theorem HOk.v {h : HartM} (k : HOk h) : VH h := (valid_iff h).1 k.valid

theorem physM_bd (pte level va : Int) : inU (physM pte level va) := by
  have hp : 0 ≤ ppnM pte ∧ ppnM pte < 17592186044416 := by unfold ppnM; omega
  unfold physM spanM inU
  split
  · omega
  · split
    · omega
    · split <;> omega

theorem pageM_bd (kind : Int) : 0 ≤ pageM kind ∧ pageM kind ≤ 63 := by unfold pageM; split; omega; split <;> omega
theorem accessM_bd (kind : Int) : 0 ≤ accessM kind ∧ accessM kind ≤ 63 := by unfold accessM; split; omega; split <;> omega

theorem leafM_bd (pte level mode : Int) (sum mxr : Bool) (kind va : Int) : (0 ≤ (leafM pte level mode sum mxr kind va).1 ∧ (leafM pte level mode sum mxr kind va).1 ≤ 63) ∧ inU (leafM pte level mode sum mxr kind va).2 := by
  unfold leafM
  split
  · exact ⟨⟨by simp, by simp⟩, physM_bd _ _ _⟩
  · exact ⟨pageM_bd kind, by simp [inU]⟩

theorem answerM_bd (r : Int × Int × Int × List RecM) (mode : Int) (sum mxr : Bool) (kind va : Int) : (0 ≤ (answerM r mode sum mxr kind va).1 ∧ (answerM r mode sum mxr kind va).1 ≤ 63) ∧ inU (answerM r mode sum mxr kind va).2 := by
  unfold answerM
  split
  · exact ⟨pageM_bd kind, by simp [inU]⟩
  · split
    · exact ⟨accessM_bd kind, by simp [inU]⟩
    · exact leafM_bd _ _ _ _ _ _ _

theorem plainM_bd (zs : List Int) (mode : Int) (sum mxr : Bool) (satp kind va : Int) (hv : inU va) : (0 ≤ (plainM zs mode sum mxr satp kind va).1 ∧ (plainM zs mode sum mxr satp kind va).1 ≤ 63) ∧ inU (plainM zs mode sum mxr satp kind va).2 := by
  unfold plainM
  split
  · exact ⟨⟨by simp, by simp⟩, by simp [inU]⟩
  · split
    · exact ⟨⟨by simp, by simp⟩, hv⟩
    · exact answerM_bd _ _ _ _ _ _

theorem tlbTrans_ok (zs : List Int) (mode : Int) (sum mxr : Bool) (satp : Int) (k : KM) (kind va pick : Int) (hz : bytesOk zs) (hk : kOk k) (hv : inU va) :
    kOk (tlbTransM zs mode sum mxr satp k kind va pick).2 ∧ (0 ≤ (tlbTransM zs mode sum mxr satp k kind va pick).1.1 ∧ (tlbTransM zs mode sum mxr satp k kind va pick).1.1 ≤ 63) ∧ inU (tlbTransM zs mode sum mxr satp k kind va pick).1.2 := by
  unfold tlbTransM
  by_cases hb : goodKM k = false ∨ kind < 0 ∨ 2 < kind ∨ mode < 0 ∨ 2 < mode ∨ pick < 0 ∨ 255 < pick
  · rw [if_pos hb]
    have h0 : tlbOk tlb0 := ⟨fun e he => absurd he (by simp [tlb0]), by simp [tlb0], by simp [tlb0], by simp [tlb0]⟩
    exact ⟨⟨h0, h0, h0⟩, ⟨by simp, by simp⟩, by simp [inU]⟩
  · rw [if_neg hb]
    have hg : goodKM k = true := by
      cases hh : goodKM k
      · exact absurd (.inl hh) hb
      · rfl
    split
    · exact ⟨hk, ⟨by simp, by simp⟩, hv⟩
    · split
      · exact ⟨hk, pageM_bd kind, by simp [inU]⟩
      · split
        · have := leafM_bd (hitM (pickM k kind) va (asidM satp)).2.2.2 (hitM (pickM k kind) va (asidM satp)).2.2.1 mode sum mxr kind va
          exact ⟨hk, this.1, this.2⟩
        · simp only
          have hgp : validM k.p true = true := by simp only [goodKM, Bool.and_eq_true] at hg; exact hg.2
          obtain ⟨_, _, hl⟩ := resume_facts zs satp va k.p (asidM satp) hgp hk.2.2.1 hz
          have ha := answerM_bd (resumeM zs satp va (hitM k.p va (asidM satp))) mode sum mxr kind va
          have hp := ptrs_ok va satp pick _ k.p hk.2.2 hl.recs
          refine ⟨?_, ha.1, ha.2⟩
          have ht : tlbOk (pickM k kind) := by unfold pickM; split; exact hk.1; exact hk.2.1
          have hi := insert_ok pick ht (entM_ok (resumeM zs satp va (hitM k.p va (asidM satp))).2.1 va satp (resumeM zs satp va (hitM k.p va (asidM satp))).2.2.1 hl.level hl.pte)
          split
          · unfold putM
            split
            · exact ⟨hi, hk.2.1, hp⟩
            · exact ⟨hk.1, hi, hp⟩
          · exact ⟨hk.1, hk.2.1, hp⟩

/-- A translation of a valid hart. -/
theorem trans_hok {h : HartM} (hh : HOk h) (plain : Bool) {pick kind va : Int} (hp : 0 ≤ pick ∧ pick ≤ 255) (hk : 0 ≤ kind ∧ kind ≤ 2) (hv : inU va) :
    HOk (withK h (transM plain pick h kind va).2) ∧ (0 ≤ (transM plain pick h kind va).1.1 ∧ (transM plain pick h kind va).1.1 ≤ 63) ∧ inU (transM plain pick h kind va).1.2 := by
  have v := hh.v
  cases plain
  · have e : transM false pick h kind va = tlbTransM h.mem h.mode h.sum h.mxr h.satp h.k kind va pick := rfl
    rw [e]
    obtain ⟨t1, t2, t3⟩ := tlbTrans_ok h.mem h.mode h.sum h.mxr h.satp h.k kind va pick hh.mem hh.ks hv
    have tg := trans_good h.mem h.mode h.sum h.mxr h.satp h.k kind va pick v.ks hk v.mode hp
    refine ⟨⟨(valid_iff _).2 ⟨v.size, v.regs, v.zero, v.mode, v.emode, v.satp, v.tvec, v.cause, tg⟩, hh.mem, hh.regs, hh.pc, hh.satp, hh.tvec, hh.epc, hh.tval, t1⟩, t2, t3⟩
  · have e : transM true pick h kind va = (plainM h.mem h.mode h.sum h.mxr h.satp kind va, h.k) := rfl
    rw [e]
    have := plainM_bd h.mem h.mode h.sum h.mxr h.satp kind va hv
    exact ⟨hh, this.1, this.2⟩

theorem look_rok {r : RunM} (hr : ROk r) (plain : Bool) {pick kind va : Int} (hp : 0 ≤ pick ∧ pick ≤ 255) (hk : 0 ≤ kind ∧ kind ≤ 2) (hv : inU va) : ROk (lookM plain pick r kind va) := by
  refine ⟨(trans_hok hr.h plain hp hk hv).1, hr.cause, hr.tval, ?_, hr.fva, hr.fas⟩
  intro l hl
  rcases List.mem_append.1 hl with hl | hl
  · exact hr.looks l hl
  · rw [List.mem_singleton] at hl
    subst hl
    exact ⟨hk, hv⟩

/-- What is known of parts: where they begin, how long they are. -/
def partsOk (ps : List PartM) : Prop := ∀ p ∈ ps, inU p.1 ∧ (1 ≤ p.2.1 ∧ p.2.1 ≤ 8) ∧ inU p.2.2

end Go.Proofs.Ythekickjjaleaac
