import Derived.Test.YthekickjjaleaacGreatPack01
/- The specification's reading of a memory: l1Inside, l1Good, l1Number, spec.ReadMem. -/
namespace Go.Proofs.YthekickjjaleaacGreat
open Go.RowKit
set_option linter.unusedVariables false

theorem l1Inside_any (a : Option Addr) (len cap : Nat) (addr n : Int) (w : World) (hl : len ≤ 1048576) (h0 : 0 ≤ addr) (h1 : addr ≤ 18446744073709551615) (h2 : 0 ≤ n) (h3 : n ≤ 9223372036854775807) :
    Calls Tryz.prog 184 #[.slice a len cap, .int .u64 addr, .int .i64 n] w fun e w' => e = .returned (.bool (insB len addr n)) ∧ w' = w := by
  by_cases hn : n ≤ len
  · go_enter Tryz.func184, Tryz.ntmps184
    go_wp2
    go_ret
    exact ⟨by simp [insB, hn], rfl⟩
  · go_enter Tryz.func184, Tryz.ntmps184
    go_wp2
    go_ret
    exact ⟨by simp [insB]; omega, rfl⟩

theorem l1Good_any (a : Option Addr) (len cap : Nat) (addr n : Int) (w : World) (hl : len ≤ 1048576) (h0 : 0 ≤ addr) (h1 : addr ≤ 18446744073709551615) (h3 : n ≤ 9223372036854775807) :
    Calls Tryz.prog 145 #[.slice a len cap, .int .u64 addr, .int .i64 n] w fun e w' => e = .returned (.bool (goodB len addr n)) ∧ w' = w := by
  by_cases hn : n = 1 ∨ n = 2 ∨ n = 4 ∨ n = 8
  · rw [← goodB_ins len addr n hn]
    rcases hn with rfl | rfl | rfl | rfl
    all_goals
      go_enter Tryz.func145, Tryz.ntmps145
      go_wp2_with (go_at_call 184; refine (l1Inside_any _ _ _ _ _ _ hl h0 h1 (by omega) (by omega)).mono ?_; rintro e w' ⟨rfl, rfl⟩)
      go_ret
      exact ⟨rfl, rfl⟩
  · have n1 : (n != 1) = true := by rw [bne_iff_ne]; omega
    have n2 : (n != 2) = true := by rw [bne_iff_ne]; omega
    have n4 : (n != 4) = true := by rw [bne_iff_ne]; omega
    have n8 : (n != 8) = true := by rw [bne_iff_ne]; omega
    have hg : goodB len addr n = false := by simp [goodB]; omega
    rw [hg]
    clear hn hg
    go_enter Tryz.func145, Tryz.ntmps145
    go_wp2_with fail
    go_ret
    exact ⟨rfl, rfl⟩

set_option maxHeartbeats 400000 in
theorem l1Number_any (zs : List Int) : ∀ (a : Option Addr) (len cap : Nat) (w : World), Byt w a len zs → len ≤ 8 → len ≤ cap → cap ≤ 9223372036854775807 →
    Calls Tryz.prog 146 #[.slice a len cap] w fun e w' => e = .returned (.int .u64 (num zs)) ∧ ∃ n, w' = w.drewN n := by
  induction zs with
  | nil =>
    intro a len cap w h h8 hc hm
    obtain ⟨h1, h2, h3⟩ := h
    simp at h1
    subst h1
    clear h2 h3
    go_enter Tryz.func146, Tryz.ntmps146
    go_wp2_with fail
    go_ret
    exact ⟨rfl, 0, rfl⟩
  | cons z r ih =>
    intro a len cap w h h8 hc hm
    obtain ⟨h1, h2, h3⟩ := h
    simp at h1
    obtain ⟨len', rfl⟩ : ∃ m, len = m + 1 := ⟨r.length, h1.symm⟩
    rcases h3 with h3 | ⟨b, off, rfl, hb, hcl⟩
    · omega
    have hcell : w.cell? ⟨b, off, none⟩ = some (.int .u8 z) := by simpa using hcl 0 (by omega)
    have hz : 0 ≤ z ∧ z ≤ 255 := by simpa using h2 0
    have hnb := num_bd r 7 (byt_mem h2) (by omega)
    simp at hnb
    have hpos : ((len' : Int) + 1 == 0) = false := by simp; omega
    have hs1 : (1 : Int) ≤ (len' : Int) + 1 := by omega
    have hs2 : (1 : Int) ≤ ((len' + 1 : Nat) : Int) := by omega
    have h1' : r.length = len' := by omega
    have hby : ∀ n, Byt (w.drewN n) (if cap = 1 then some ⟨b, off, none⟩ else some ⟨b, off + 1, none⟩) len' r := fun n =>
      byt_tail h2 h1' hb hcl (fun h => if_neg (by omega))
    have IH : Hid (∀ (a : Option Addr) (len cap : Nat) (w : World), Byt w a len r → len ≤ 8 → len ≤ cap → cap ≤ 9223372036854775807 →
      Calls Tryz.prog 146 #[.slice a len cap] w fun e w' => e = .returned (.int .u64 (num r)) ∧ ∃ n, w' = w.drewN n) := ih
    have HB : Hid (∀ n, Byt (w.drewN n) (if cap = 1 then some ⟨b, off, none⟩ else some ⟨b, off + 1, none⟩) len' r) := hby
    clear ih hcl h2 h1 h1' hby
    go_enter Tryz.func146, Tryz.ntmps146
    go_wp2_with fail
    go_quiet ((go_at_call 146; exact Calls.quiet_of (IH.out _ _ _ _ (HB.out _) (by omega) (by omega) (by omega))))
    go_wp2_with fail
    all_goals
      go_ret
      exact ⟨rfl, nq, rfl⟩

set_option maxHeartbeats 400000 in
theorem specRead_any (a : Option Addr) (len cap : Nat) (zs : List Int) (addr n : Int) (w : World) (h : Byt w a len zs) (hl : len ≤ 1048576) (hc : len ≤ cap) (hm : cap ≤ 9223372036854775807)
    (h0 : 0 ≤ addr) (h1 : addr ≤ 18446744073709551615) (h3 : n ≤ 9223372036854775807) :
    Calls Tryz.prog 94 #[.slice a len cap, .int .u64 addr, .int .i64 n] w fun e w' => e = .returned (.agg #[.bool (goodB len addr n), .int .u64 (rdV zs addr n)]) ∧ Below w.heap.size w w' := by
  obtain ⟨hz, h2, hy⟩ := h
  cases hg : goodB len addr n
  · have hv : rdV zs addr n = 0 := by simp [rdV, hz, hg]
    rw [hv]
    have HG : Hid (goodB len addr n = false) := hg
    clear hg hv hy h2
    go_enter Tryz.func94, Tryz.ntmps94
    go_wp2_with (go_at_call 145; refine (l1Good_any _ _ _ _ _ _ hl h0 h1 h3).mono ?_; rintro e w' ⟨rfl, rfl⟩; rw [HG.out])
    exact bodyPost_ret (v := .agg #[.bool false, .int .u64 0]) (by simp [results, Tryz.results94, go_sem]) rfl ⟨rfl, ((Below.refl _ _).alloc (Nat.le_refl _) _)⟩
  · have hv : rdV zs addr n = num ((zs.drop addr.toNat).take n.toNat) := by simp [rdV, hz, hg]
    rw [hv]
    have hg' := hg
    simp only [goodB, decide_eq_true_eq] at hg'
    obtain ⟨hn, hn1, hn2⟩ := hg'
    obtain ⟨k, rfl⟩ := Int.eq_ofNat_of_zero_le h0
    rcases hy with hy | ⟨b, off, rfl, hb, hcl⟩
    · omega
    obtain ⟨m, rfl⟩ := Int.eq_ofNat_of_zero_le (show 0 ≤ n by omega)
    have hm8 : m ≤ 8 := by omega
    have hm0 : 0 < m := by omega
    have hkm : k + m ≤ len := by omega
    have HG : Hid (goodB len k m = true) := hg
    have HS : Hid (∀ w' : World, Below w.heap.size w w' → Byt w' (some ⟨b, off + k, none⟩) m ((zs.drop k).take m)) := fun w' hw =>
      Byt.keep (byt_sub h2 hz hb hkm hcl (fun h => rfl)) hw
    clear hg hv hcl h2 hn hz
    go_enter Tryz.func94, Tryz.ntmps94
    go_wp2_with (first
      | (go_at_call 145; refine (l1Good_any _ _ _ _ _ _ hl h0 h1 h3).mono ?_; rintro e w' ⟨rfl, rfl⟩; rw [HG.out])
      | fail)
    refine (l1Number_any ((zs.drop k).take m) _ _ _ _ (HS.out _ ((Below.refl _ _).alloc (Nat.le_refl _) _)) hm8 (by omega) (by omega)).mono ?_
    rintro e w' ⟨rfl, nq, rfl⟩
    go_wp2_with fail
    refine bodyPost_ret (v := .agg #[.bool true, .int .u64 (num ((zs.drop k).take m))]) (by simp [results, Tryz.results94, go_sem]) rfl ⟨rfl, ?_⟩
    exact ((below_drewN ((Below.refl _ _).alloc (Nat.le_refl _) _) _).setCell (Nat.le_refl _) _).setCell (Nat.le_refl _) _

end Go.Proofs.YthekickjjaleaacGreat

/- Plain mathematics of chapter 2: the bits of a table entry. No program, no memory. -/
namespace Go.Proofs.YthekickjjaleaacGreat
set_option linter.unusedVariables false

/-- Bit i of x, p being 2 to the i. -/
def bitB (x p : Int) : Bool := x / p % 2 == 1
def canonM (va : Int) : Bool := va / 16384 % 1125899906842624 == 0 || va / 16384 % 1125899906842624 == 1125899906842623
def ppnM (pte : Int) : Int := pte / 1024 % 17592186044416

/-- 2 to the (3 * level), at the levels that there are. -/
def pow3 (level : Int) : Int := if level = 0 then 1 else if level = 1 then 8 else 64
/-- 2 to the (6 + 3 * level). -/
def spanM (level : Int) : Int := if level = 0 then 64 else if level = 1 then 512 else 4096

def kindM (pte level : Int) : Int :=
  if level < 0 ∨ 2 < level ∨ bitB pte 1 = false ∨ 0 < pte / 18014398509481984 % 1024 ∨ (bitB pte 4 = true ∧ bitB pte 2 = false) then 0
  else if bitB pte 2 = false ∧ bitB pte 4 = false ∧ bitB pte 8 = false then
    (if level = 0 ∨ bitB pte 16 = true ∨ bitB pte 64 = true ∨ bitB pte 128 = true then 0 else 1)
  else if 0 < ppnM pte % pow3 level then 0 else 2

def grantM (pte kind mode : Int) (sum mxr : Bool) : Bool :=
  (if kind = 0 then bitB pte 8 else if kind = 1 then bitB pte 2 || (mxr && bitB pte 8) else if kind = 2 then bitB pte 4 && bitB pte 128 else false) &&
  (if mode = 0 then bitB pte 16 else if mode = 1 then !bitB pte 16 || (kind != 0 && sum) else false) && bitB pte 64

def physM (pte level va : Int) : Int :=
  if level < 0 ∨ 2 < level then 0 else ppnM pte * 64 / spanM level * spanM level + va % spanM level

end Go.Proofs.YthekickjjaleaacGreat

/- The specification's chapter 2: l2Pow, l2Bits, l2Bit, Canonical, l2Ppn, PteKind, Granted, PhysOf. -/
namespace Go.Proofs.YthekickjjaleaacGreat
open Go.RowKit
set_option linter.unusedVariables false

theorem pow_bd (k : Nat) (h : k ≤ 62) : 1 ≤ (2 : Int) ^ k ∧ (2 : Int) ^ k ≤ 4611686018427387904 := by
  have h1 : (2 : Nat) ^ k ≤ 2 ^ 62 := Nat.pow_le_pow_right (by omega) h
  have h2 : 1 ≤ (2 : Nat) ^ k := Nat.one_le_two_pow
  have e : (2 : Int) ^ k = ((2 ^ k : Nat) : Int) := by push_cast; rfl
  rw [e]
  omega

theorem ret_i64 {a b : Int} (h : a = b) : Ending.returned (.int .i64 a) = .returned (.int .i64 b) := by rw [h]
theorem ret_bool {a b : Bool} (h : a = b) : Ending.returned (.bool a) = .returned (.bool b) := by rw [h]

theorem l2Pow_any (k : Nat) : ∀ (n : Int) (w : World), n ≤ k → k ≤ 63 → n.toNat = k →
    Calls Tryz.prog 88 #[.int .i64 n] w fun e w' => e = .returned (.int .u64 (2 ^ k)) ∧ w' = w := by
  induction k with
  | zero =>
    intro n w h h' h''
    have hn : n ≤ 0 := by omega
    go_enter Tryz.func88, Tryz.ntmps88
    go_wp2_with fail
    go_ret
    exact ⟨rfl, rfl⟩
  | succ k ih =>
    intro n w h h' h''
    have hn : ¬ n ≤ 0 := by omega
    have hb := pow_bd k (by omega)
    have IH : Hid (∀ (n : Int) (w : World), n ≤ k → k ≤ 63 → n.toNat = k →
      Calls Tryz.prog 88 #[.int .i64 n] w fun e w' => e = .returned (.int .u64 (2 ^ k)) ∧ w' = w) := ih
    have HE : Hid ((2 : Int) ^ (k + 1) = 2 * 2 ^ k) := by show _ = _; rw [Int.pow_succ, Int.mul_comm]
    rw [HE.out]
    clear ih HE
    have H'' : Hid (n.toNat = k + 1) := h''
    clear h''
    generalize (2 : Int) ^ k = p at *
    go_enter Tryz.func88, Tryz.ntmps88
    go_wp2_with fail
    refine (IH.out (n - 1) w (by omega) (by omega) (by have := H''.out; omega)).mono ?_
    rintro e w' ⟨rfl, rfl⟩
    go_wp2_with fail
    go_ret
    exact ⟨rfl, rfl⟩

/-- 2 to the n, p being that number. -/
theorem l2Pow_at (n p : Int) (w : World) (hn : n ≤ 63) (hp : p = 2 ^ n.toNat) :
    Calls Tryz.prog 88 #[.int .i64 n] w fun e w' => e = .returned (.int .u64 p) ∧ w' = w := by
  rw [hp]
  exact l2Pow_any n.toNat n w (by omega) (by omega) rfl

set_option maxHeartbeats 400000 in
theorem l2Bits_at (x i j p q : Int) (w : World) (h0 : 0 ≤ x) (h1 : x ≤ 18446744073709551615) (hi : 0 ≤ i) (hi' : i ≤ 63) (hj : i ≤ j + 1) (hj' : j - i ≤ 62) (hp : p = 2 ^ i.toNat) (hq : q = 2 ^ (j - i + 1).toNat) :
    Calls Tryz.prog 87 #[.int .u64 x, .int .i64 i, .int .i64 j] w fun e w' => e = .returned (.int .u64 (x / p % q)) ∧ ∃ n, w' = w.drewN n := by
  have hp1 : 1 ≤ p := by rw [hp]; exact Int.pow_pos (by omega : (0 : Int) < 2)
  have hq1 : 1 ≤ q := by rw [hq]; exact Int.pow_pos (by omega : (0 : Int) < 2)
  have hxp : 0 ≤ x / p := Int.ediv_nonneg h0 (by omega)
  have HP : Hid (p = 2 ^ i.toNat) := hp
  have HQ : Hid (q = 2 ^ (j - i + 1).toNat) := hq
  clear hp hq
  go_enter Tryz.func87, Tryz.ntmps87
  go_wp2_with fail
  go_quiet (first
    | (go_at_call_of 88 (Value.int IntKind.i64 i); exact Calls.quiet_of_same (l2Pow_at i p _ (by omega) HP.out))
    | (go_at_call 88; exact Calls.quiet_of_same (l2Pow_at (j - i + 1) q _ (by omega) HQ.out)))
  go_wp2_with fail
  go_ret
  exact ⟨rfl, nq, rfl⟩

theorem l2Bit_at (x i p : Int) (w : World) (h0 : 0 ≤ x) (h1 : x ≤ 18446744073709551615) (hi : 0 ≤ i) (hi' : i ≤ 63) (hp : p = 2 ^ i.toNat) :
    Calls Tryz.prog 96 #[.int .u64 x, .int .i64 i] w fun e w' => e = .returned (.bool (bitB x p)) ∧ ∃ n, w' = w.drewN n := by
  have HP : Hid (p = 2 ^ i.toNat) := hp
  clear hp
  go_enter Tryz.func96, Tryz.ntmps96
  go_wp2_with fail
  refine (l2Bits_at x i i p 2 w h0 h1 hi hi' (by omega) (by omega) HP.out (by rw [show i - i + 1 = 1 by omega]; rfl)).mono ?_
  rintro e w' ⟨rfl, nq, rfl⟩
  go_wp2_with fail
  go_ret
  exact ⟨rfl, nq, rfl⟩

theorem l2Ppn_at (x : Int) (w : World) (h0 : 0 ≤ x) (h1 : x ≤ 18446744073709551615) :
    Calls Tryz.prog 48 #[.int .u64 x] w fun e w' => e = .returned (.int .u64 (ppnM x)) ∧ ∃ n, w' = w.drewN n := by
  go_enter Tryz.func48, Tryz.ntmps48
  go_wp2_with fail
  refine (l2Bits_at x 10 53 1024 17592186044416 w h0 h1 (by omega) (by omega) (by omega) (by omega) rfl rfl).mono ?_
  rintro e w' ⟨rfl, nq, rfl⟩
  go_wp2_with fail
  go_ret
  exact ⟨rfl, nq, rfl⟩

theorem specCanonical_at (x : Int) (w : World) (h0 : 0 ≤ x) (h1 : x ≤ 18446744073709551615) :
    Calls Tryz.prog 41 #[.int .u64 x] w fun e w' => e = .returned (.bool (canonM x)) ∧ ∃ n, w' = w.drewN n := by
  go_enter Tryz.func41, Tryz.ntmps41
  go_wp2_with fail
  refine (l2Bits_at x 14 63 16384 1125899906842624 w h0 h1 (by omega) (by omega) (by omega) (by omega) rfl rfl).mono ?_
  rintro e w' ⟨rfl, nq, rfl⟩
  by_cases ht : x / 16384 % 1125899906842624 = 0
  · have ht' : (x / 16384 % 1125899906842624 == 0) = true := by simp [ht]
    clear ht
    go_wp2_with fail
    go_ret
    exact ⟨by simp [canonM, ht'], nq, rfl⟩
  · have ht' : (x / 16384 % 1125899906842624 == 0) = false := by simpa using ht
    clear ht
    go_wp2_with (go_at_call 88; refine (l2Pow_at 50 1125899906842624 _ (by omega) rfl).mono ?_; rintro e w' ⟨rfl, rfl⟩)
    go_ret
    exact ⟨by simp [canonM, ht'], nq, rfl⟩

set_option maxHeartbeats 1600000 in
theorem specPteKind_at (pte level : Int) (w : World) (h0 : 0 ≤ pte) (h1 : pte ≤ 18446744073709551615) (hl : -9223372036854775808 ≤ level) (hl' : level ≤ 9223372036854775807) :
    Calls Tryz.prog 49 #[.int .u64 pte, .int .i64 level] w fun e w' => e = .returned (.int .i64 (kindM pte level)) ∧ ∃ n, w' = w.drewN n := by
  go_enter Tryz.func49, Tryz.ntmps49
  go_wp2_with fail
  refine (l2Bit_at pte 1 2 w h0 h1 (by omega) (by omega) rfl).mono ?_
  rintro e w' ⟨rfl, n1, rfl⟩
  go_wp2_with fail
  refine (l2Bit_at pte 2 4 _ h0 h1 (by omega) (by omega) rfl).mono ?_
  rintro e w' ⟨rfl, n2, rfl⟩
  go_wp2_with fail
  refine (l2Bit_at pte 3 8 _ h0 h1 (by omega) (by omega) rfl).mono ?_
  rintro e w' ⟨rfl, n3, rfl⟩
  go_wp2_with fail
  refine (l2Bit_at pte 4 16 _ h0 h1 (by omega) (by omega) rfl).mono ?_
  rintro e w' ⟨rfl, n4, rfl⟩
  go_wp2_with fail
  refine (l2Bit_at pte 6 64 _ h0 h1 (by omega) (by omega) rfl).mono ?_
  rintro e w' ⟨rfl, n5, rfl⟩
  go_wp2_with fail
  refine (l2Bit_at pte 7 128 _ h0 h1 (by omega) (by omega) rfl).mono ?_
  rintro e w' ⟨rfl, n6, rfl⟩
  by_cases hlev : 0 ≤ level ∧ level ≤ 2
  · obtain ⟨hl0, hl2⟩ := hlev
    cases hV : bitB pte 1
    · go_wp2_with (first
        | (go_at_call 96; refine (l2Bit_at pte 0 1 _ h0 h1 (by omega) (by omega) rfl).mono ?_; rintro e w' ⟨rfl, n7, rfl⟩; rw [hV]))
      go_ret
      exact ⟨ret_i64 (by simp [kindM, hV]), _, rfl⟩
    · by_cases hres : 0 < pte / 18014398509481984 % 1024
      · go_wp2_with (first
          | (go_at_call 96; refine (l2Bit_at pte 0 1 _ h0 h1 (by omega) (by omega) rfl).mono ?_; rintro e w' ⟨rfl, n7, rfl⟩; rw [hV])
          | (go_at_call 87; refine (l2Bits_at pte 54 63 18014398509481984 1024 _ h0 h1 (by omega) (by omega) (by omega) (by omega) rfl rfl).mono ?_; rintro e w' ⟨rfl, n8, rfl⟩))
        go_ret
        exact ⟨ret_i64 (by simp [kindM, hres]), _, rfl⟩
      · have hres' : decide (0 < pte / 18014398509481984 % 1024) = false := by simpa using hres
        cases hr : bitB pte 2 <;> cases hw : bitB pte 4
        · cases hx : bitB pte 8
          · cases hu : bitB pte 16 <;> cases ha : bitB pte 64 <;> cases hd : bitB pte 128
            all_goals
              rcases (show level = 0 ∨ level = 1 ∨ level = 2 by omega) with rfl | rfl | rfl
              all_goals
                go_wp2_with (first
                  | (go_at_call 96; refine (l2Bit_at pte 0 1 _ h0 h1 (by omega) (by omega) rfl).mono ?_; rintro e w' ⟨rfl, n7, rfl⟩; rw [hV])
                  | (go_at_call 87; refine (l2Bits_at pte 54 63 18014398509481984 1024 _ h0 h1 (by omega) (by omega) (by omega) (by omega) rfl rfl).mono ?_; rintro e w' ⟨rfl, n8, rfl⟩))
                go_ret
                exact ⟨ret_i64 (by simp [kindM, hV, hr, hw, hx, hu, ha, hd, hres]), _, rfl⟩
          · -- only X: a leaf
            obtain ⟨t, ht⟩ : ∃ t, ppnM pte = t := ⟨_, rfl⟩
            have hpp : 0 ≤ t := by rw [← ht]; exact Int.emod_nonneg _ (by omega)
            have HPP : Hid (ppnM pte = t) := ht
            clear ht
            rcases (show level = 0 ∨ level = 1 ∨ level = 2 by omega) with rfl | rfl | rfl
            · go_wp2_with (first
                    | (go_at_call 96; refine (l2Bit_at pte 0 1 _ h0 h1 (by omega) (by omega) rfl).mono ?_; rintro e w' ⟨rfl, n7, rfl⟩; rw [hV])
                    | (go_at_call 87; refine (l2Bits_at pte 54 63 18014398509481984 1024 _ h0 h1 (by omega) (by omega) (by omega) (by omega) rfl rfl).mono ?_; rintro e w' ⟨rfl, n8, rfl⟩)
                    | (go_at_call 48; refine (l2Ppn_at pte _ h0 h1).mono ?_; rintro e w' ⟨rfl, n9, rfl⟩; rw [HPP.out])
                    | (go_at_call 88; refine (l2Pow_at _ 1 _ (by omega) rfl).mono ?_; rintro e w' ⟨rfl, rfl⟩))
              go_ret
              exact ⟨ret_i64 (by simp [kindM, hV, hr, hw, hx, hres, pow3, Int.emod_one]), _, rfl⟩
            · by_cases hm : 0 < t % 8
              · go_wp2_with (first
                    | (go_at_call 96; refine (l2Bit_at pte 0 1 _ h0 h1 (by omega) (by omega) rfl).mono ?_; rintro e w' ⟨rfl, n7, rfl⟩; rw [hV])
                    | (go_at_call 87; refine (l2Bits_at pte 54 63 18014398509481984 1024 _ h0 h1 (by omega) (by omega) (by omega) (by omega) rfl rfl).mono ?_; rintro e w' ⟨rfl, n8, rfl⟩)
                    | (go_at_call 48; refine (l2Ppn_at pte _ h0 h1).mono ?_; rintro e w' ⟨rfl, n9, rfl⟩; rw [HPP.out])
                    | (go_at_call 88; refine (l2Pow_at _ 8 _ (by omega) rfl).mono ?_; rintro e w' ⟨rfl, rfl⟩))
                go_ret
                exact ⟨ret_i64 (by simp [kindM, hV, hr, hw, hx, show ¬ 0 < pte / 18014398509481984 % 1024 by omega, pow3, HPP.out, hm]), _, rfl⟩
              · go_wp2_with (first
                    | (go_at_call 96; refine (l2Bit_at pte 0 1 _ h0 h1 (by omega) (by omega) rfl).mono ?_; rintro e w' ⟨rfl, n7, rfl⟩; rw [hV])
                    | (go_at_call 87; refine (l2Bits_at pte 54 63 18014398509481984 1024 _ h0 h1 (by omega) (by omega) (by omega) (by omega) rfl rfl).mono ?_; rintro e w' ⟨rfl, n8, rfl⟩)
                    | (go_at_call 48; refine (l2Ppn_at pte _ h0 h1).mono ?_; rintro e w' ⟨rfl, n9, rfl⟩; rw [HPP.out])
                    | (go_at_call 88; refine (l2Pow_at _ 8 _ (by omega) rfl).mono ?_; rintro e w' ⟨rfl, rfl⟩))
                go_ret
                exact ⟨ret_i64 (by simp [kindM, hV, hr, hw, hx, show ¬ 0 < pte / 18014398509481984 % 1024 by omega, show ¬ 0 < t % 8 by omega, pow3, HPP.out]), _, rfl⟩
            · by_cases hm : 0 < t % 64
              · go_wp2_with (first
                    | (go_at_call 96; refine (l2Bit_at pte 0 1 _ h0 h1 (by omega) (by omega) rfl).mono ?_; rintro e w' ⟨rfl, n7, rfl⟩; rw [hV])
                    | (go_at_call 87; refine (l2Bits_at pte 54 63 18014398509481984 1024 _ h0 h1 (by omega) (by omega) (by omega) (by omega) rfl rfl).mono ?_; rintro e w' ⟨rfl, n8, rfl⟩)
                    | (go_at_call 48; refine (l2Ppn_at pte _ h0 h1).mono ?_; rintro e w' ⟨rfl, n9, rfl⟩; rw [HPP.out])
                    | (go_at_call 88; refine (l2Pow_at _ 64 _ (by omega) rfl).mono ?_; rintro e w' ⟨rfl, rfl⟩))
                go_ret
                exact ⟨ret_i64 (by simp [kindM, hV, hr, hw, hx, show ¬ 0 < pte / 18014398509481984 % 1024 by omega, pow3, HPP.out, hm]), _, rfl⟩
              · go_wp2_with (first
                    | (go_at_call 96; refine (l2Bit_at pte 0 1 _ h0 h1 (by omega) (by omega) rfl).mono ?_; rintro e w' ⟨rfl, n7, rfl⟩; rw [hV])
                    | (go_at_call 87; refine (l2Bits_at pte 54 63 18014398509481984 1024 _ h0 h1 (by omega) (by omega) (by omega) (by omega) rfl rfl).mono ?_; rintro e w' ⟨rfl, n8, rfl⟩)
                    | (go_at_call 48; refine (l2Ppn_at pte _ h0 h1).mono ?_; rintro e w' ⟨rfl, n9, rfl⟩; rw [HPP.out])
                    | (go_at_call 88; refine (l2Pow_at _ 64 _ (by omega) rfl).mono ?_; rintro e w' ⟨rfl, rfl⟩))
                go_ret
                exact ⟨ret_i64 (by simp [kindM, hV, hr, hw, hx, show ¬ 0 < pte / 18014398509481984 % 1024 by omega, show ¬ 0 < t % 64 by omega, pow3, HPP.out]), _, rfl⟩
        · -- W and not R
          go_wp2_with (first
            | (go_at_call 96; refine (l2Bit_at pte 0 1 _ h0 h1 (by omega) (by omega) rfl).mono ?_; rintro e w' ⟨rfl, n7, rfl⟩; rw [hV])
            | (go_at_call 87; refine (l2Bits_at pte 54 63 18014398509481984 1024 _ h0 h1 (by omega) (by omega) (by omega) (by omega) rfl rfl).mono ?_; rintro e w' ⟨rfl, n8, rfl⟩))
          go_ret
          exact ⟨ret_i64 (by simp [kindM, hr, hw]), _, rfl⟩
        · -- R
          obtain ⟨t, ht⟩ : ∃ t, ppnM pte = t := ⟨_, rfl⟩
          have hpp : 0 ≤ t := by rw [← ht]; exact Int.emod_nonneg _ (by omega)
          have HPP : Hid (ppnM pte = t) := ht
          clear ht
          rcases (show level = 0 ∨ level = 1 ∨ level = 2 by omega) with rfl | rfl | rfl
          · go_wp2_with (first
                  | (go_at_call 96; refine (l2Bit_at pte 0 1 _ h0 h1 (by omega) (by omega) rfl).mono ?_; rintro e w' ⟨rfl, n7, rfl⟩; rw [hV])
                  | (go_at_call 87; refine (l2Bits_at pte 54 63 18014398509481984 1024 _ h0 h1 (by omega) (by omega) (by omega) (by omega) rfl rfl).mono ?_; rintro e w' ⟨rfl, n8, rfl⟩)
                  | (go_at_call 48; refine (l2Ppn_at pte _ h0 h1).mono ?_; rintro e w' ⟨rfl, n9, rfl⟩; rw [HPP.out])
                  | (go_at_call 88; refine (l2Pow_at _ 1 _ (by omega) rfl).mono ?_; rintro e w' ⟨rfl, rfl⟩))
            go_ret
            exact ⟨ret_i64 (by simp [kindM, hV, hr, hw, hres, pow3, Int.emod_one]), _, rfl⟩
          · by_cases hm : 0 < t % 8
            · go_wp2_with (first
                  | (go_at_call 96; refine (l2Bit_at pte 0 1 _ h0 h1 (by omega) (by omega) rfl).mono ?_; rintro e w' ⟨rfl, n7, rfl⟩; rw [hV])
                  | (go_at_call 87; refine (l2Bits_at pte 54 63 18014398509481984 1024 _ h0 h1 (by omega) (by omega) (by omega) (by omega) rfl rfl).mono ?_; rintro e w' ⟨rfl, n8, rfl⟩)
                  | (go_at_call 48; refine (l2Ppn_at pte _ h0 h1).mono ?_; rintro e w' ⟨rfl, n9, rfl⟩; rw [HPP.out])
                  | (go_at_call 88; refine (l2Pow_at _ 8 _ (by omega) rfl).mono ?_; rintro e w' ⟨rfl, rfl⟩))
              go_ret
              exact ⟨ret_i64 (by simp [kindM, hV, hr, hw, show ¬ 0 < pte / 18014398509481984 % 1024 by omega, pow3, HPP.out, hm]), _, rfl⟩
            · go_wp2_with (first
                  | (go_at_call 96; refine (l2Bit_at pte 0 1 _ h0 h1 (by omega) (by omega) rfl).mono ?_; rintro e w' ⟨rfl, n7, rfl⟩; rw [hV])
                  | (go_at_call 87; refine (l2Bits_at pte 54 63 18014398509481984 1024 _ h0 h1 (by omega) (by omega) (by omega) (by omega) rfl rfl).mono ?_; rintro e w' ⟨rfl, n8, rfl⟩)
                  | (go_at_call 48; refine (l2Ppn_at pte _ h0 h1).mono ?_; rintro e w' ⟨rfl, n9, rfl⟩; rw [HPP.out])
                  | (go_at_call 88; refine (l2Pow_at _ 8 _ (by omega) rfl).mono ?_; rintro e w' ⟨rfl, rfl⟩))
              go_ret
              exact ⟨ret_i64 (by simp [kindM, hV, hr, hw, show ¬ 0 < pte / 18014398509481984 % 1024 by omega, show ¬ 0 < t % 8 by omega, pow3, HPP.out]), _, rfl⟩
          · by_cases hm : 0 < t % 64
            · go_wp2_with (first
                  | (go_at_call 96; refine (l2Bit_at pte 0 1 _ h0 h1 (by omega) (by omega) rfl).mono ?_; rintro e w' ⟨rfl, n7, rfl⟩; rw [hV])
                  | (go_at_call 87; refine (l2Bits_at pte 54 63 18014398509481984 1024 _ h0 h1 (by omega) (by omega) (by omega) (by omega) rfl rfl).mono ?_; rintro e w' ⟨rfl, n8, rfl⟩)
                  | (go_at_call 48; refine (l2Ppn_at pte _ h0 h1).mono ?_; rintro e w' ⟨rfl, n9, rfl⟩; rw [HPP.out])
                  | (go_at_call 88; refine (l2Pow_at _ 64 _ (by omega) rfl).mono ?_; rintro e w' ⟨rfl, rfl⟩))
              go_ret
              exact ⟨ret_i64 (by simp [kindM, hV, hr, hw, show ¬ 0 < pte / 18014398509481984 % 1024 by omega, pow3, HPP.out, hm]), _, rfl⟩
            · go_wp2_with (first
                  | (go_at_call 96; refine (l2Bit_at pte 0 1 _ h0 h1 (by omega) (by omega) rfl).mono ?_; rintro e w' ⟨rfl, n7, rfl⟩; rw [hV])
                  | (go_at_call 87; refine (l2Bits_at pte 54 63 18014398509481984 1024 _ h0 h1 (by omega) (by omega) (by omega) (by omega) rfl rfl).mono ?_; rintro e w' ⟨rfl, n8, rfl⟩)
                  | (go_at_call 48; refine (l2Ppn_at pte _ h0 h1).mono ?_; rintro e w' ⟨rfl, n9, rfl⟩; rw [HPP.out])
                  | (go_at_call 88; refine (l2Pow_at _ 64 _ (by omega) rfl).mono ?_; rintro e w' ⟨rfl, rfl⟩))
              go_ret
              exact ⟨ret_i64 (by simp [kindM, hV, hr, hw, show ¬ 0 < pte / 18014398509481984 % 1024 by omega, show ¬ 0 < t % 64 by omega, pow3, HPP.out]), _, rfl⟩
        · -- R and W
          obtain ⟨t, ht⟩ : ∃ t, ppnM pte = t := ⟨_, rfl⟩
          have hpp : 0 ≤ t := by rw [← ht]; exact Int.emod_nonneg _ (by omega)
          have HPP : Hid (ppnM pte = t) := ht
          clear ht
          rcases (show level = 0 ∨ level = 1 ∨ level = 2 by omega) with rfl | rfl | rfl
          · go_wp2_with (first
                  | (go_at_call 96; refine (l2Bit_at pte 0 1 _ h0 h1 (by omega) (by omega) rfl).mono ?_; rintro e w' ⟨rfl, n7, rfl⟩; rw [hV])
                  | (go_at_call 87; refine (l2Bits_at pte 54 63 18014398509481984 1024 _ h0 h1 (by omega) (by omega) (by omega) (by omega) rfl rfl).mono ?_; rintro e w' ⟨rfl, n8, rfl⟩)
                  | (go_at_call 48; refine (l2Ppn_at pte _ h0 h1).mono ?_; rintro e w' ⟨rfl, n9, rfl⟩; rw [HPP.out])
                  | (go_at_call 88; refine (l2Pow_at _ 1 _ (by omega) rfl).mono ?_; rintro e w' ⟨rfl, rfl⟩))
            go_ret
            exact ⟨ret_i64 (by simp [kindM, hV, hr, hw, hres, pow3, Int.emod_one]), _, rfl⟩
          · by_cases hm : 0 < t % 8
            · go_wp2_with (first
                  | (go_at_call 96; refine (l2Bit_at pte 0 1 _ h0 h1 (by omega) (by omega) rfl).mono ?_; rintro e w' ⟨rfl, n7, rfl⟩; rw [hV])
                  | (go_at_call 87; refine (l2Bits_at pte 54 63 18014398509481984 1024 _ h0 h1 (by omega) (by omega) (by omega) (by omega) rfl rfl).mono ?_; rintro e w' ⟨rfl, n8, rfl⟩)
                  | (go_at_call 48; refine (l2Ppn_at pte _ h0 h1).mono ?_; rintro e w' ⟨rfl, n9, rfl⟩; rw [HPP.out])
                  | (go_at_call 88; refine (l2Pow_at _ 8 _ (by omega) rfl).mono ?_; rintro e w' ⟨rfl, rfl⟩))
              go_ret
              exact ⟨ret_i64 (by simp [kindM, hV, hr, hw, show ¬ 0 < pte / 18014398509481984 % 1024 by omega, pow3, HPP.out, hm]), _, rfl⟩
            · go_wp2_with (first
                  | (go_at_call 96; refine (l2Bit_at pte 0 1 _ h0 h1 (by omega) (by omega) rfl).mono ?_; rintro e w' ⟨rfl, n7, rfl⟩; rw [hV])
                  | (go_at_call 87; refine (l2Bits_at pte 54 63 18014398509481984 1024 _ h0 h1 (by omega) (by omega) (by omega) (by omega) rfl rfl).mono ?_; rintro e w' ⟨rfl, n8, rfl⟩)
                  | (go_at_call 48; refine (l2Ppn_at pte _ h0 h1).mono ?_; rintro e w' ⟨rfl, n9, rfl⟩; rw [HPP.out])
                  | (go_at_call 88; refine (l2Pow_at _ 8 _ (by omega) rfl).mono ?_; rintro e w' ⟨rfl, rfl⟩))
              go_ret
              exact ⟨ret_i64 (by simp [kindM, hV, hr, hw, show ¬ 0 < pte / 18014398509481984 % 1024 by omega, show ¬ 0 < t % 8 by omega, pow3, HPP.out]), _, rfl⟩
          · by_cases hm : 0 < t % 64
            · go_wp2_with (first
                  | (go_at_call 96; refine (l2Bit_at pte 0 1 _ h0 h1 (by omega) (by omega) rfl).mono ?_; rintro e w' ⟨rfl, n7, rfl⟩; rw [hV])
                  | (go_at_call 87; refine (l2Bits_at pte 54 63 18014398509481984 1024 _ h0 h1 (by omega) (by omega) (by omega) (by omega) rfl rfl).mono ?_; rintro e w' ⟨rfl, n8, rfl⟩)
                  | (go_at_call 48; refine (l2Ppn_at pte _ h0 h1).mono ?_; rintro e w' ⟨rfl, n9, rfl⟩; rw [HPP.out])
                  | (go_at_call 88; refine (l2Pow_at _ 64 _ (by omega) rfl).mono ?_; rintro e w' ⟨rfl, rfl⟩))
              go_ret
              exact ⟨ret_i64 (by simp [kindM, hV, hr, hw, show ¬ 0 < pte / 18014398509481984 % 1024 by omega, pow3, HPP.out, hm]), _, rfl⟩
            · go_wp2_with (first
                  | (go_at_call 96; refine (l2Bit_at pte 0 1 _ h0 h1 (by omega) (by omega) rfl).mono ?_; rintro e w' ⟨rfl, n7, rfl⟩; rw [hV])
                  | (go_at_call 87; refine (l2Bits_at pte 54 63 18014398509481984 1024 _ h0 h1 (by omega) (by omega) (by omega) (by omega) rfl rfl).mono ?_; rintro e w' ⟨rfl, n8, rfl⟩)
                  | (go_at_call 48; refine (l2Ppn_at pte _ h0 h1).mono ?_; rintro e w' ⟨rfl, n9, rfl⟩; rw [HPP.out])
                  | (go_at_call 88; refine (l2Pow_at _ 64 _ (by omega) rfl).mono ?_; rintro e w' ⟨rfl, rfl⟩))
              go_ret
              exact ⟨ret_i64 (by simp [kindM, hV, hr, hw, show ¬ 0 < pte / 18014398509481984 % 1024 by omega, show ¬ 0 < t % 64 by omega, pow3, HPP.out]), _, rfl⟩
  · by_cases hneg : level < 0
    · go_wp2_with fail
      go_ret
      exact ⟨ret_i64 (by simp [kindM, hneg]), _, rfl⟩
    · have hgt : 2 < level := by omega
      go_wp2_with fail
      go_ret
      exact ⟨ret_i64 (by simp [kindM, hgt]), _, rfl⟩

end Go.Proofs.YthekickjjaleaacGreat

/- The specification's chapter 2, more: Granted, PhysOf. -/
namespace Go.Proofs.YthekickjjaleaacGreat
open Go.RowKit
set_option linter.unusedVariables false

set_option maxHeartbeats 1600000 in
theorem specGranted_at (pte kind mode : Int) (sum mxr : Bool) (w : World) (h0 : 0 ≤ pte) (h1 : pte ≤ 18446744073709551615) :
    Calls Tryz.prog 91 #[.int .u64 pte, .int .i64 kind, .int .i64 mode, .bool sum, .bool mxr] w fun e w' => e = .returned (.bool (grantM pte kind mode sum mxr)) ∧ ∃ n, w' = w.drewN n := by
  go_enter Tryz.func91, Tryz.ntmps91
  go_wp2_with fail
  refine (l2Bit_at pte 1 2 w h0 h1 (by omega) (by omega) rfl).mono ?_
  rintro e w' ⟨rfl, n1, rfl⟩
  go_wp2_with fail
  refine (l2Bit_at pte 2 4 _ h0 h1 (by omega) (by omega) rfl).mono ?_
  rintro e w' ⟨rfl, n2, rfl⟩
  go_wp2_with fail
  refine (l2Bit_at pte 3 8 _ h0 h1 (by omega) (by omega) rfl).mono ?_
  rintro e w' ⟨rfl, n3, rfl⟩
  go_wp2_with fail
  refine (l2Bit_at pte 4 16 _ h0 h1 (by omega) (by omega) rfl).mono ?_
  rintro e w' ⟨rfl, n4, rfl⟩
  go_wp2_with fail
  refine (l2Bit_at pte 6 64 _ h0 h1 (by omega) (by omega) rfl).mono ?_
  rintro e w' ⟨rfl, n5, rfl⟩
  go_wp2_with fail
  refine (l2Bit_at pte 7 128 _ h0 h1 (by omega) (by omega) rfl).mono ?_
  rintro e w' ⟨rfl, n6, rfl⟩
  by_cases k0 : kind = 0
  · subst k0
    by_cases m0 : mode = 0
    · subst m0
      go_wp2_with fail
      all_goals (go_ret; exact ⟨ret_bool (by simp_all [grantM]), _, rfl⟩)
    by_cases m1 : mode = 1
    · subst m1
      go_wp2_with fail
      all_goals (go_ret; exact ⟨ret_bool (by simp_all [grantM]), _, rfl⟩)
    · have m0' : (mode == 0) = false := by simpa using m0
      have m1' : (mode == 1) = false := by simpa using m1
      go_wp2_with fail
      all_goals (go_ret; exact ⟨ret_bool (by simp_all [grantM]), _, rfl⟩)
  by_cases k1 : kind = 1
  · subst k1
    by_cases m0 : mode = 0
    · subst m0
      go_wp2_with fail
      all_goals (go_ret; exact ⟨ret_bool (by simp_all [grantM]), _, rfl⟩)
    by_cases m1 : mode = 1
    · subst m1
      go_wp2_with fail
      all_goals (go_ret; exact ⟨ret_bool (by simp_all [grantM]), _, rfl⟩)
    · have m0' : (mode == 0) = false := by simpa using m0
      have m1' : (mode == 1) = false := by simpa using m1
      go_wp2_with fail
      all_goals (go_ret; exact ⟨ret_bool (by simp_all [grantM]), _, rfl⟩)
  by_cases k2 : kind = 2
  · subst k2
    by_cases m0 : mode = 0
    · subst m0
      go_wp2_with fail
      all_goals (go_ret; exact ⟨ret_bool (by simp_all [grantM]), _, rfl⟩)
    by_cases m1 : mode = 1
    · subst m1
      go_wp2_with fail
      all_goals (go_ret; exact ⟨ret_bool (by simp_all [grantM]), _, rfl⟩)
    · have m0' : (mode == 0) = false := by simpa using m0
      have m1' : (mode == 1) = false := by simpa using m1
      go_wp2_with fail
      all_goals (go_ret; exact ⟨ret_bool (by simp_all [grantM]), _, rfl⟩)
  have k0' : (kind == 0) = false := by simpa using k0
  have k1' : (kind == 1) = false := by simpa using k1
  have k2' : (kind == 2) = false := by simpa using k2
  by_cases m0 : mode = 0
  · subst m0
    go_wp2_with fail
    all_goals (go_ret; exact ⟨ret_bool (by simp_all [grantM]), _, rfl⟩)
  by_cases m1 : mode = 1
  · subst m1
    go_wp2_with fail
    all_goals (go_ret; exact ⟨ret_bool (by simp_all [grantM]), _, rfl⟩)
  · have m0' : (mode == 0) = false := by simpa using m0
    have m1' : (mode == 1) = false := by simpa using m1
    go_wp2_with fail
    all_goals (go_ret; exact ⟨ret_bool (by simp_all [grantM]), _, rfl⟩)

set_option maxHeartbeats 800000 in
theorem specPhysOf_at (pte level va : Int) (w : World) (h0 : 0 ≤ pte) (h1 : pte ≤ 18446744073709551615) (hv : 0 ≤ va) (hv' : va ≤ 18446744073709551615) (hl : -9223372036854775808 ≤ level) (hl' : level ≤ 9223372036854775807) :
    Calls Tryz.prog 92 #[.int .u64 pte, .int .i64 level, .int .u64 va] w fun e w' => e = .returned (.int .u64 (physM pte level va)) ∧ ∃ n, w' = w.drewN n := by
  by_cases hneg : level < 0
  · go_enter Tryz.func92, Tryz.ntmps92
    go_wp2_with fail
    go_ret
    exact ⟨ret_u64 (by simp [physM, hneg]), 0, rfl⟩
  by_cases hgt : 2 < level
  · go_enter Tryz.func92, Tryz.ntmps92
    go_wp2_with fail
    go_ret
    exact ⟨ret_u64 (by simp [physM, hgt]), 0, rfl⟩
  have hpp : 0 ≤ ppnM pte ∧ ppnM pte < 17592186044416 := ⟨Int.emod_nonneg _ (by omega), Int.emod_lt_of_pos _ (by omega)⟩
  rcases (show level = 0 ∨ level = 1 ∨ level = 2 by omega) with rfl | rfl | rfl
  · go_enter Tryz.func92, Tryz.ntmps92
    go_wp2_with fail
    refine (l2Pow_at 6 64 _ (by omega) rfl).mono ?_
    rintro e w' ⟨rfl, rfl⟩
    go_wp2_with fail
    go_quiet ((go_at_call 48; exact Calls.quiet_of (l2Ppn_at pte _ h0 h1)))
    go_wp2_with fail
    go_ret
    exact ⟨ret_u64 (by simp [physM, spanM]), nq, rfl⟩
  · go_enter Tryz.func92, Tryz.ntmps92
    go_wp2_with fail
    refine (l2Pow_at 9 512 _ (by omega) rfl).mono ?_
    rintro e w' ⟨rfl, rfl⟩
    go_wp2_with fail
    go_quiet ((go_at_call 48; exact Calls.quiet_of (l2Ppn_at pte _ h0 h1)))
    go_wp2_with fail
    go_ret
    exact ⟨ret_u64 (by simp [physM, spanM]), nq, rfl⟩
  · go_enter Tryz.func92, Tryz.ntmps92
    go_wp2_with fail
    refine (l2Pow_at 12 4096 _ (by omega) rfl).mono ?_
    rintro e w' ⟨rfl, rfl⟩
    go_wp2_with fail
    go_quiet ((go_at_call 48; exact Calls.quiet_of (l2Ppn_at pte _ h0 h1)))
    go_wp2_with fail
    go_ret
    exact ⟨ret_u64 (by simp [physM, spanM]), nq, rfl⟩

end Go.Proofs.YthekickjjaleaacGreat
