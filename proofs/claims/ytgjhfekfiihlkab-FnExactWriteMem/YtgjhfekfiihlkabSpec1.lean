/- The specification's reading of a memory: l1Inside, l1Good, l1Number, spec.ReadMem. -/
import Derived.Test.YtgjhfekfiihlkabMem
namespace Go.Proofs.Ytgjhfekfiihlkab
open Go.RowKit
set_option linter.unusedVariables false

/-- All of the n bytes from addr on lie in a memory of 'len' bytes. -/
def insB (len : Nat) (addr n : Int) : Bool := decide (n ≤ len ∧ addr ≤ len - n)
def goodB (len : Nat) (addr n : Int) : Bool := decide ((n = 1 ∨ n = 2 ∨ n = 4 ∨ n = 8) ∧ n ≤ len ∧ addr ≤ len - n)

/-- The number that bytes make, lowest first. -/
def num : List Int → Int
  | [] => 0
  | b :: r => b + 256 * num r

theorem l1Inside_any (a : Option Addr) (len cap : Nat) (addr n : Int) (w : World) (hl : len ≤ 1048576) (h0 : 0 ≤ addr) (h1 : addr ≤ 18446744073709551615) (h2 : 0 ≤ n) (h3 : n ≤ 9223372036854775807) :
    Calls Try.prog 48 #[.slice a len cap, .int .u64 addr, .int .i64 n] w fun e w' => e = .returned (.bool (insB len addr n)) ∧ w' = w := by
  by_cases hn : n ≤ len
  · go_enter Try.func48, Try.ntmps48
    go_wp2
    go_ret
    exact ⟨by simp [insB, hn], rfl⟩
  · go_enter Try.func48, Try.ntmps48
    go_wp2
    go_ret
    exact ⟨by simp [insB]; omega, rfl⟩

theorem goodB_ins (len : Nat) (addr n : Int) (h : n = 1 ∨ n = 2 ∨ n = 4 ∨ n = 8) : insB len addr n = goodB len addr n := by
  simp [insB, goodB, h]

theorem l1Good_any (a : Option Addr) (len cap : Nat) (addr n : Int) (w : World) (hl : len ≤ 1048576) (h0 : 0 ≤ addr) (h1 : addr ≤ 18446744073709551615) (h3 : n ≤ 9223372036854775807) :
    Calls Try.prog 27 #[.slice a len cap, .int .u64 addr, .int .i64 n] w fun e w' => e = .returned (.bool (goodB len addr n)) ∧ w' = w := by
  by_cases hn : n = 1 ∨ n = 2 ∨ n = 4 ∨ n = 8
  · rw [← goodB_ins len addr n hn]
    rcases hn with rfl | rfl | rfl | rfl
    all_goals
      go_enter Try.func27, Try.ntmps27
      go_wp2_with (go_at_call 48; refine (l1Inside_any _ _ _ _ _ _ hl h0 h1 (by omega) (by omega)).mono ?_; rintro e w' ⟨rfl, rfl⟩)
      go_ret
      exact ⟨rfl, rfl⟩
  · have n1 : (n != 1) = true := by rw [bne_iff_ne]; omega
    have n2 : (n != 2) = true := by rw [bne_iff_ne]; omega
    have n4 : (n != 4) = true := by rw [bne_iff_ne]; omega
    have n8 : (n != 8) = true := by rw [bne_iff_ne]; omega
    have hg : goodB len addr n = false := by simp [goodB]; omega
    rw [hg]
    clear hn hg
    go_enter Try.func27, Try.ntmps27
    go_wp2_with fail
    go_ret
    exact ⟨rfl, rfl⟩

theorem num_bd : ∀ (zs : List Int) (k : Nat), (∀ z ∈ zs, 0 ≤ z ∧ z ≤ 255) → zs.length ≤ k → 0 ≤ num zs ∧ num zs < 256 ^ k
  | [], k, _, _ => by simp [num]; exact Int.pow_pos (by omega)
  | b :: r, 0, _, h => by simp at h
  | b :: r, k + 1, hz, h => by
    have ih := num_bd r k (fun z hz' => hz z (by simp [hz'])) (by simpa using h)
    have hb := hz b (by simp)
    have e : (256 : Int) ^ (k + 1) = 256 ^ k * 256 := Int.pow_succ _ _
    simp only [num]
    omega

theorem byt_tail {w : World} {a : Option Addr} {b off len : Nat} {z : Int} {r : List Int} (h2 : ∀ i : Nat, 0 ≤ (z :: r)[i]?.getD 0 ∧ (z :: r)[i]?.getD 0 ≤ 255) (hr : r.length = len) (hb : b < w.heap.size)
    (hc : ∀ i, i < len + 1 → w.cell? ⟨b, off + i, none⟩ = some (.int .u8 ((z :: r)[i]?.getD 0))) (ha : 0 < len → a = some ⟨b, off + 1, none⟩) : Byt w a len r := by
  refine ⟨hr, fun i => by simpa using h2 (i + 1), ?_⟩
  by_cases h : len = 0
  · exact .inl h
  · refine .inr ⟨b, off + 1, ha (by omega), hb, fun i hi => ?_⟩
    have := hc (i + 1) (by omega)
    simpa [Nat.add_assoc, Nat.add_comm 1 i] using this

theorem byt_mem {z : Int} {r : List Int} (h : ∀ i : Nat, 0 ≤ (z :: r)[i]?.getD 0 ∧ (z :: r)[i]?.getD 0 ≤ 255) : ∀ x ∈ r, 0 ≤ x ∧ x ≤ 255 := by
  intro x hx
  obtain ⟨i, hi, rfl⟩ := List.getElem_of_mem hx
  simpa [hi] using h (i + 1)

theorem num_append (xs ys : List Int) : num (xs ++ ys) = num xs + 256 ^ xs.length * num ys := by
  induction xs with
  | nil => simp [num]
  | cons x r ih =>
    simp only [List.cons_append, num, ih, List.length_cons, Int.pow_succ]
    rw [Int.mul_add, Int.add_assoc, Int.mul_comm (256 ^ r.length) 256, Int.mul_assoc]

theorem num_two (zs : List Int) (k : Nat) (h : k + 2 ≤ zs.length) : num ((zs.drop k).take 2) = zs[k]?.getD 0 + zs[k + 1]?.getD 0 * 256 := by
  rw [List.drop_eq_getElem_cons (by omega), List.take_succ_cons, List.drop_eq_getElem_cons (by omega), List.take_succ_cons]
  simp [num, show k < zs.length by omega, show k + 1 < zs.length by omega, Int.mul_comm]

theorem num_one (zs : List Int) (k : Nat) (h : k + 1 ≤ zs.length) : num ((zs.drop k).take 1) = zs[k]?.getD 0 := by
  rw [List.drop_eq_getElem_cons (by omega), List.take_succ_cons]
  simp [num, show k < zs.length by omega]

theorem num_join (zs : List Int) (k m : Nat) (h : k + 2 * m ≤ zs.length) : num ((zs.drop k).take (2 * m)) = num ((zs.drop k).take m) + num ((zs.drop (k + m)).take m) * 256 ^ m := by
  have e : (zs.drop k).take (2 * m) = (zs.drop k).take m ++ (zs.drop (k + m)).take m := by
    rw [show 2 * m = m + m by omega, List.take_add, List.drop_drop]
  rw [e, num_append, List.length_take, List.length_drop, Nat.min_eq_left (by omega), Int.mul_comm]

theorem num_sub_bd (zs : List Int) (k m : Nat) (h2 : ∀ i : Nat, 0 ≤ zs[i]?.getD 0 ∧ zs[i]?.getD 0 ≤ 255) : 0 ≤ num ((zs.drop k).take m) ∧ num ((zs.drop k).take m) < 256 ^ m := by
  refine num_bd _ m (fun z hz => ?_) (by simp; omega)
  have hz' := List.mem_of_mem_drop (List.mem_of_mem_take hz)
  obtain ⟨i, hi, rfl⟩ := List.getElem_of_mem hz'
  simpa [hi] using h2 i

set_option maxHeartbeats 400000 in
theorem l1Number_any (zs : List Int) : ∀ (a : Option Addr) (len cap : Nat) (w : World), Byt w a len zs → len ≤ 8 → len ≤ cap → cap ≤ 9223372036854775807 →
    Calls Try.prog 28 #[.slice a len cap] w fun e w' => e = .returned (.int .u64 (num zs)) ∧ ∃ n, w' = w.drewN n := by
  induction zs with
  | nil =>
    intro a len cap w h h8 hc hm
    obtain ⟨h1, h2, h3⟩ := h
    simp at h1
    subst h1
    clear h2 h3
    go_enter Try.func28, Try.ntmps28
    go_wp2_with fail
    go_ret
    exact ⟨rfl, 0, rfl⟩
  | cons z r ih =>
    intro a len cap w h h8 hc hm
    obtain ⟨h1, h2, h3⟩ := h
    simp at h1
    obtain ⟨len', rfl⟩ : ∃ m, len = m + 1 := ⟨r.length, h1.symm⟩
    rcases h3 with h3 | ⟨b, off, rfl, hb, hcl⟩
    · omega
    have hcell : w.cell? ⟨b, off, none⟩ = some (.int .u8 z) := by simpa using hcl 0 (by omega)
    have hz : 0 ≤ z ∧ z ≤ 255 := by simpa using h2 0
    have hnb := num_bd r 7 (byt_mem h2) (by omega)
    simp at hnb
    have hpos : ((len' : Int) + 1 == 0) = false := by simp; omega
    have hs1 : (1 : Int) ≤ (len' : Int) + 1 := by omega
    have hs2 : (1 : Int) ≤ ((len' + 1 : Nat) : Int) := by omega
    have h1' : r.length = len' := by omega
    have hby : ∀ n, Byt (w.drewN n) (if cap = 1 then some ⟨b, off, none⟩ else some ⟨b, off + 1, none⟩) len' r := fun n =>
      byt_tail h2 h1' hb hcl (fun h => if_neg (by omega))
    have IH : Hid (∀ (a : Option Addr) (len cap : Nat) (w : World), Byt w a len r → len ≤ 8 → len ≤ cap → cap ≤ 9223372036854775807 →
      Calls Try.prog 28 #[.slice a len cap] w fun e w' => e = .returned (.int .u64 (num r)) ∧ ∃ n, w' = w.drewN n) := ih
    have HB : Hid (∀ n, Byt (w.drewN n) (if cap = 1 then some ⟨b, off, none⟩ else some ⟨b, off + 1, none⟩) len' r) := hby
    clear ih hcl h2 h1 h1' hby
    go_enter Try.func28, Try.ntmps28
    go_wp2_with fail
    go_quiet ((go_at_call 28; exact Calls.quiet_of (IH.out _ _ _ _ (HB.out _) (by omega) (by omega) (by omega))))
    go_wp2_with fail
    all_goals
      go_ret
      exact ⟨rfl, nq, rfl⟩

theorem byt_sub {w : World} {a : Option Addr} {b off len k n : Nat} {zs : List Int} (h2 : ∀ i : Nat, 0 ≤ zs[i]?.getD 0 ∧ zs[i]?.getD 0 ≤ 255) (hz : zs.length = len) (hb : b < w.heap.size) (hk : k + n ≤ len)
    (hc : ∀ i, i < len → w.cell? ⟨b, off + i, none⟩ = some (.int .u8 (zs[i]?.getD 0))) (ha : 0 < n → a = some ⟨b, off + k, none⟩) : Byt w a n ((zs.drop k).take n) := by
  refine ⟨by simp; omega, fun i => ?_, ?_⟩
  · by_cases h : i < n
    · simpa [List.getElem?_take, h] using h2 (k + i)
    · simp [List.getElem?_take, h]
  · by_cases h : n = 0
    · exact .inl h
    · refine .inr ⟨b, off + k, ha (by omega), hb, fun i hi => ?_⟩
      have := hc (k + i) (by omega)
      simpa [List.getElem?_take, hi, Nat.add_assoc] using this

/-- What ReadMem answers. -/
def rdV (zs : List Int) (addr n : Int) : Int := if goodB zs.length addr n then num ((zs.drop addr.toNat).take n.toNat) else 0

set_option maxHeartbeats 400000 in
theorem specRead_any (a : Option Addr) (len cap : Nat) (zs : List Int) (addr n : Int) (w : World) (h : Byt w a len zs) (hl : len ≤ 1048576) (hc : len ≤ cap) (hm : cap ≤ 9223372036854775807)
    (h0 : 0 ≤ addr) (h1 : addr ≤ 18446744073709551615) (h3 : n ≤ 9223372036854775807) :
    Calls Try.prog 8 #[.slice a len cap, .int .u64 addr, .int .i64 n] w fun e w' => e = .returned (.agg #[.bool (goodB len addr n), .int .u64 (rdV zs addr n)]) ∧ Below w.heap.size w w' := by
  obtain ⟨hz, h2, hy⟩ := h
  cases hg : goodB len addr n
  · have hv : rdV zs addr n = 0 := by simp [rdV, hz, hg]
    rw [hv]
    have HG : Hid (goodB len addr n = false) := hg
    clear hg hv hy h2
    go_enter Try.func8, Try.ntmps8
    go_wp2_with (go_at_call 27; refine (l1Good_any _ _ _ _ _ _ hl h0 h1 h3).mono ?_; rintro e w' ⟨rfl, rfl⟩; rw [HG.out])
    exact bodyPost_ret (v := .agg #[.bool false, .int .u64 0]) (by simp [results, Try.results8, go_sem]) rfl ⟨rfl, ((Below.refl _ _).alloc (Nat.le_refl _) _)⟩
  · have hv : rdV zs addr n = num ((zs.drop addr.toNat).take n.toNat) := by simp [rdV, hz, hg]
    rw [hv]
    have hg' := hg
    simp only [goodB, decide_eq_true_eq] at hg'
    obtain ⟨hn, hn1, hn2⟩ := hg'
    obtain ⟨k, rfl⟩ := Int.eq_ofNat_of_zero_le h0
    rcases hy with hy | ⟨b, off, rfl, hb, hcl⟩
    · omega
    obtain ⟨m, rfl⟩ := Int.eq_ofNat_of_zero_le (show 0 ≤ n by omega)
    have hm8 : m ≤ 8 := by omega
    have hm0 : 0 < m := by omega
    have hkm : k + m ≤ len := by omega
    have HG : Hid (goodB len k m = true) := hg
    have HS : Hid (∀ w' : World, Below w.heap.size w w' → Byt w' (some ⟨b, off + k, none⟩) m ((zs.drop k).take m)) := fun w' hw =>
      Byt.keep (byt_sub h2 hz hb hkm hcl (fun h => rfl)) hw
    clear hg hv hcl h2 hn hz
    go_enter Try.func8, Try.ntmps8
    go_wp2_with (first
      | (go_at_call 27; refine (l1Good_any _ _ _ _ _ _ hl h0 h1 h3).mono ?_; rintro e w' ⟨rfl, rfl⟩; rw [HG.out])
      | fail)
    refine (l1Number_any ((zs.drop k).take m) _ _ _ _ (HS.out _ ((Below.refl _ _).alloc (Nat.le_refl _) _)) hm8 (by omega) (by omega)).mono ?_
    rintro e w' ⟨rfl, nq, rfl⟩
    go_wp2_with fail
    refine bodyPost_ret (v := .agg #[.bool true, .int .u64 (num ((zs.drop k).take m))]) (by simp [results, Try.results8, go_sem]) rfl ⟨rfl, ?_⟩
    exact ((below_drewN ((Below.refl _ _).alloc (Nat.le_refl _) _) _).setCell (Nat.le_refl _) _).setCell (Nat.le_refl _) _

end Go.Proofs.Ytgjhfekfiihlkab
