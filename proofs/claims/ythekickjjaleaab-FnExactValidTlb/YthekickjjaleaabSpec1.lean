/- The specification's reading of a memory: l1Inside, l1Good, l1Number, spec.ReadMem. -/
import Derived.Test.YthekickjjaleaabMem
namespace Go.Proofs.Ythekickjjaleaab
open Go.RowKit
set_option linter.unusedVariables false

theorem l1Inside_any (a : Option Addr) (len cap : Nat) (addr n : Int) (w : World) (hl : len ≤ 1048576) (h0 : 0 ≤ addr) (h1 : addr ≤ 18446744073709551615) (h2 : 0 ≤ n) (h3 : n ≤ 9223372036854775807) :
    Calls Try.prog 114 #[.slice a len cap, .int .u64 addr, .int .i64 n] w fun e w' => e = .returned (.bool (insB len addr n)) ∧ w' = w := by
  by_cases hn : n ≤ len
  · go_enter Try.func114, Try.ntmps114
    go_wp2
    go_ret
    exact ⟨by simp [insB, hn], rfl⟩
  · go_enter Try.func114, Try.ntmps114
    go_wp2
    go_ret
    exact ⟨by simp [insB]; omega, rfl⟩

theorem l1Good_any (a : Option Addr) (len cap : Nat) (addr n : Int) (w : World) (hl : len ≤ 1048576) (h0 : 0 ≤ addr) (h1 : addr ≤ 18446744073709551615) (h3 : n ≤ 9223372036854775807) :
    Calls Try.prog 57 #[.slice a len cap, .int .u64 addr, .int .i64 n] w fun e w' => e = .returned (.bool (goodB len addr n)) ∧ w' = w := by
  by_cases hn : n = 1 ∨ n = 2 ∨ n = 4 ∨ n = 8
  · rw [← goodB_ins len addr n hn]
    rcases hn with rfl | rfl | rfl | rfl
    all_goals
      go_enter Try.func57, Try.ntmps57
      go_wp2_with (go_at_call 114; refine (l1Inside_any _ _ _ _ _ _ hl h0 h1 (by omega) (by omega)).mono ?_; rintro e w' ⟨rfl, rfl⟩)
      go_ret
      exact ⟨rfl, rfl⟩
  · have n1 : (n != 1) = true := by rw [bne_iff_ne]; omega
    have n2 : (n != 2) = true := by rw [bne_iff_ne]; omega
    have n4 : (n != 4) = true := by rw [bne_iff_ne]; omega
    have n8 : (n != 8) = true := by rw [bne_iff_ne]; omega
    have hg : goodB len addr n = false := by simp [goodB]; omega
    rw [hg]
    clear hn hg
    go_enter Try.func57, Try.ntmps57
    go_wp2_with fail
    go_ret
    exact ⟨rfl, rfl⟩

set_option maxHeartbeats 400000 in
theorem l1Number_any (zs : List Int) : ∀ (a : Option Addr) (len cap : Nat) (w : World), Byt w a len zs → len ≤ 8 → len ≤ cap → cap ≤ 9223372036854775807 →
    Calls Try.prog 58 #[.slice a len cap] w fun e w' => e = .returned (.int .u64 (num zs)) ∧ ∃ n, w' = w.drewN n := by
  induction zs with
  | nil =>
    intro a len cap w h h8 hc hm
    obtain ⟨h1, h2, h3⟩ := h
    simp at h1
    subst h1
    clear h2 h3
    go_enter Try.func58, Try.ntmps58
    go_wp2_with fail
    go_ret
    exact ⟨rfl, 0, rfl⟩
  | cons z r ih =>
    intro a len cap w h h8 hc hm
    obtain ⟨h1, h2, h3⟩ := h
    simp at h1
    obtain ⟨len', rfl⟩ : ∃ m, len = m + 1 := ⟨r.length, h1.symm⟩
    rcases h3 with h3 | ⟨b, off, rfl, hb, hcl⟩
    · omega
    have hcell : w.cell? ⟨b, off, none⟩ = some (.int .u8 z) := by simpa using hcl 0 (by omega)
    have hz : 0 ≤ z ∧ z ≤ 255 := by simpa using h2 0
    have hnb := num_bd r 7 (byt_mem h2) (by omega)
    simp at hnb
    have hpos : ((len' : Int) + 1 == 0) = false := by simp; omega
    have hs1 : (1 : Int) ≤ (len' : Int) + 1 := by omega
    have hs2 : (1 : Int) ≤ ((len' + 1 : Nat) : Int) := by omega
    have h1' : r.length = len' := by omega
    have hby : ∀ n, Byt (w.drewN n) (if cap = 1 then some ⟨b, off, none⟩ else some ⟨b, off + 1, none⟩) len' r := fun n =>
      byt_tail h2 h1' hb hcl (fun h => if_neg (by omega))
    have IH : Hid (∀ (a : Option Addr) (len cap : Nat) (w : World), Byt w a len r → len ≤ 8 → len ≤ cap → cap ≤ 9223372036854775807 →
      Calls Try.prog 58 #[.slice a len cap] w fun e w' => e = .returned (.int .u64 (num r)) ∧ ∃ n, w' = w.drewN n) := ih
    have HB : Hid (∀ n, Byt (w.drewN n) (if cap = 1 then some ⟨b, off, none⟩ else some ⟨b, off + 1, none⟩) len' r) := hby
    clear ih hcl h2 h1 h1' hby
    go_enter Try.func58, Try.ntmps58
    go_wp2_with fail
    go_quiet ((go_at_call 58; exact Calls.quiet_of (IH.out _ _ _ _ (HB.out _) (by omega) (by omega) (by omega))))
    go_wp2_with fail
    all_goals
      go_ret
      exact ⟨rfl, nq, rfl⟩

set_option maxHeartbeats 400000 in
theorem specRead_any (a : Option Addr) (len cap : Nat) (zs : List Int) (addr n : Int) (w : World) (h : Byt w a len zs) (hl : len ≤ 1048576) (hc : len ≤ cap) (hm : cap ≤ 9223372036854775807)
    (h0 : 0 ≤ addr) (h1 : addr ≤ 18446744073709551615) (h3 : n ≤ 9223372036854775807) :
    Calls Try.prog 15 #[.slice a len cap, .int .u64 addr, .int .i64 n] w fun e w' => e = .returned (.agg #[.bool (goodB len addr n), .int .u64 (rdV zs addr n)]) ∧ Below w.heap.size w w' := by
  obtain ⟨hz, h2, hy⟩ := h
  cases hg : goodB len addr n
  · have hv : rdV zs addr n = 0 := by simp [rdV, hz, hg]
    rw [hv]
    have HG : Hid (goodB len addr n = false) := hg
    clear hg hv hy h2
    go_enter Try.func15, Try.ntmps15
    go_wp2_with (go_at_call 57; refine (l1Good_any _ _ _ _ _ _ hl h0 h1 h3).mono ?_; rintro e w' ⟨rfl, rfl⟩; rw [HG.out])
    exact bodyPost_ret (v := .agg #[.bool false, .int .u64 0]) (by simp [results, Try.results15, go_sem]) rfl ⟨rfl, ((Below.refl _ _).alloc (Nat.le_refl _) _)⟩
  · have hv : rdV zs addr n = num ((zs.drop addr.toNat).take n.toNat) := by simp [rdV, hz, hg]
    rw [hv]
    have hg' := hg
    simp only [goodB, decide_eq_true_eq] at hg'
    obtain ⟨hn, hn1, hn2⟩ := hg'
    obtain ⟨k, rfl⟩ := Int.eq_ofNat_of_zero_le h0
    rcases hy with hy | ⟨b, off, rfl, hb, hcl⟩
    · omega
    obtain ⟨m, rfl⟩ := Int.eq_ofNat_of_zero_le (show 0 ≤ n by omega)
    have hm8 : m ≤ 8 := by omega
    have hm0 : 0 < m := by omega
    have hkm : k + m ≤ len := by omega
    have HG : Hid (goodB len k m = true) := hg
    have HS : Hid (∀ w' : World, Below w.heap.size w w' → Byt w' (some ⟨b, off + k, none⟩) m ((zs.drop k).take m)) := fun w' hw =>
      Byt.keep (byt_sub h2 hz hb hkm hcl (fun h => rfl)) hw
    clear hg hv hcl h2 hn hz
    go_enter Try.func15, Try.ntmps15
    go_wp2_with (first
      | (go_at_call 57; refine (l1Good_any _ _ _ _ _ _ hl h0 h1 h3).mono ?_; rintro e w' ⟨rfl, rfl⟩; rw [HG.out])
      | fail)
    refine (l1Number_any ((zs.drop k).take m) _ _ _ _ (HS.out _ ((Below.refl _ _).alloc (Nat.le_refl _) _)) hm8 (by omega) (by omega)).mono ?_
    rintro e w' ⟨rfl, nq, rfl⟩
    go_wp2_with fail
    refine bodyPost_ret (v := .agg #[.bool true, .int .u64 (num ((zs.drop k).take m))]) (by simp [results, Try.results15, go_sem]) rfl ⟨rfl, ?_⟩
    exact ((below_drewN ((Below.refl _ _).alloc (Nat.le_refl _) _) _).setCell (Nat.le_refl _) _).setCell (Nat.le_refl _) _

end Go.Proofs.Ythekickjjaleaab
