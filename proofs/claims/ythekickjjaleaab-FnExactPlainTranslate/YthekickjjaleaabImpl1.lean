/- The program's reading of a memory: holds, read1 .. read8, impl.ReadMem. -/
import Derived.Test.YthekickjjaleaabSpec1w
namespace Go.Proofs.Ythekickjjaleaab
open Go.RowKit
set_option linter.unusedVariables false

theorem run_rr0 (w : World) (b : Bool) (v : Int) : (Instr.field 25 (.agg #[.bool b, .int .u64 v]) 0).run Try.prog w = .ok (.bool b) w := by
  simp [Instr.field, go_sem, part, asAgg]

theorem has_any (a : Option Addr) (len cap : Nat) (addr n : Int) (w : World) (hl : len ≤ 1048576) (h0 : 0 ≤ addr) (h1 : addr ≤ 18446744073709551615) (h2 : 0 ≤ n) (h3 : n ≤ 18446744073709551615) :
    Calls Try.prog 115 #[.slice a len cap, .int .u64 addr, .int .u64 n] w fun e w' => e = .returned (.bool (insB len addr n)) ∧ w' = w := by
  by_cases hh : n ≤ (len : Int)
  all_goals
    go_enter Try.func115, Try.ntmps115
    go_wp2
    all_goals
      go_ret
      exact ⟨by simp [insB]; try omega, rfl⟩

theorem holds_any (a : Option Addr) (len cap : Nat) (addr n : Int) (w : World) (hl : len ≤ 1048576) (h0 : 0 ≤ addr) (h1 : addr ≤ 18446744073709551615) (h3 : n ≤ 9223372036854775807) :
    Calls Try.prog 59 #[.slice a len cap, .int .u64 addr, .int .i64 n] w fun e w' => e = .returned (.bool (goodB len addr n)) ∧ w' = w := by
  by_cases hn : n = 1 ∨ n = 2 ∨ n = 4 ∨ n = 8
  · rw [← goodB_ins len addr n hn]
    rcases hn with rfl | rfl | rfl | rfl
    all_goals
      go_enter Try.func59, Try.ntmps59
      go_wp2_with (go_at_call 115; refine (has_any _ _ _ _ _ _ hl h0 h1 (by omega) (by omega)).mono ?_; rintro e w' ⟨rfl, rfl⟩)
      go_ret
      exact ⟨rfl, rfl⟩
  · have n1 : (n == 1) = false := by simp; omega
    have n2 : (n == 2) = false := by simp; omega
    have n4 : (n == 4) = false := by simp; omega
    have n8 : (n == 8) = false := by simp; omega
    have hg : goodB len addr n = false := by simp [goodB]; omega
    rw [hg]
    clear hn hg
    go_enter Try.func59, Try.ntmps59
    go_wp2_with fail
    go_ret
    exact ⟨rfl, rfl⟩

theorem read1_any (b off len cap k : Nat) (zs : List Int) (w : World) (h : Cel w b off len zs) (hk : k < len) (hl : len ≤ 1048576) :
    Calls Try.prog 60 #[.slice (some ⟨b, off, none⟩) len cap, .int .u64 k] w fun e w' => e = .returned (.int .u64 (zs[k]?.getD 0)) ∧ w' = w := by
  have hcell := h.2.2 k hk
  have hb := h.2.1 k
  obtain ⟨z, hz'⟩ : ∃ z, z = zs[k]?.getD 0 := ⟨_, rfl⟩
  rw [← hz'] at hcell hb ⊢
  clear hz' h
  go_enter Try.func60, Try.ntmps60
  go_wp2_with fail
  go_ret
  exact ⟨rfl, rfl⟩

theorem read2_any (b off len cap k : Nat) (zs : List Int) (w : World) (h : Cel w b off len zs) (hk : k + 2 ≤ len) (hl : len ≤ 1048576) :
    Calls Try.prog 61 #[.slice (some ⟨b, off, none⟩) len cap, .int .u64 k] w fun e w' => e = .returned (.int .u64 (num ((zs.drop k).take 2))) ∧ w' = w := by
  have hb1 := h.2.1 k
  have hb2 := h.2.1 (k + 1)
  have HF : Hid (bits .or .u64 (zs[k]?.getD 0) (zs[k + 1]?.getD 0 * 256) = num ((zs.drop k).take 2)) := by
    rw [num_two zs k (by have := h.1; omega)]
    exact or_shift 8 256 _ _ rfl hb1.1 (by omega) hb2.1 (by omega) (by omega)
  go_enter Try.func61, Try.ntmps61
  go_wp2_with fail
  refine (read1_any b off len cap k zs w h (by omega) hl).mono ?_
  rintro e w' ⟨rfl, rfl⟩
  go_wp2_with fail
  rw [show ((k : Int) + 1) = ((k + 1 : Nat) : Int) by omega]
  refine (read1_any b off len cap (k + 1) zs _ h (by omega) hl).mono ?_
  rintro e w' ⟨rfl, rfl⟩
  go_wp2_with fail
  go_ret
  exact ⟨ret_u64 HF.out, rfl⟩

theorem read4_any (b off len cap k : Nat) (zs : List Int) (w : World) (h : Cel w b off len zs) (hk : k + 4 ≤ len) (hl : len ≤ 1048576) :
    Calls Try.prog 62 #[.slice (some ⟨b, off, none⟩) len cap, .int .u64 k] w fun e w' => e = .returned (.int .u64 (num ((zs.drop k).take 4))) ∧ w' = w := by
  have hb1 := num_sub_bd zs k 2 h.2.1
  have hb2 := num_sub_bd zs (k + 2) 2 h.2.1
  simp at hb1 hb2
  have HF : Hid (bits .or .u64 (num ((zs.drop k).take 2)) (num ((zs.drop (k + 2)).take 2) * 65536) = num ((zs.drop k).take 4)) := by
    rw [num_join zs k 2 (by have := h.1; omega)]
    exact or_shift 16 65536 _ _ rfl hb1.1 (by omega) hb2.1 (by omega) (by omega)
  go_enter Try.func62, Try.ntmps62
  go_wp2_with fail
  refine (read2_any b off len cap k zs w h (by omega) hl).mono ?_
  rintro e w' ⟨rfl, rfl⟩
  go_wp2_with fail
  rw [show ((k : Int) + 2) = ((k + 2 : Nat) : Int) by omega]
  refine (read2_any b off len cap (k + 2) zs _ h (by omega) hl).mono ?_
  rintro e w' ⟨rfl, rfl⟩
  go_wp2_with fail
  go_ret
  exact ⟨ret_u64 HF.out, rfl⟩

theorem read8_any (b off len cap k : Nat) (zs : List Int) (w : World) (h : Cel w b off len zs) (hk : k + 8 ≤ len) (hl : len ≤ 1048576) :
    Calls Try.prog 63 #[.slice (some ⟨b, off, none⟩) len cap, .int .u64 k] w fun e w' => e = .returned (.int .u64 (num ((zs.drop k).take 8))) ∧ w' = w := by
  have hb1 := num_sub_bd zs k 4 h.2.1
  have hb2 := num_sub_bd zs (k + 4) 4 h.2.1
  simp at hb1 hb2
  have HF : Hid (bits .or .u64 (num ((zs.drop k).take 4)) (num ((zs.drop (k + 4)).take 4) * 4294967296) = num ((zs.drop k).take 8)) := by
    rw [num_join zs k 4 (by have := h.1; omega)]
    exact or_shift 32 4294967296 _ _ rfl hb1.1 (by omega) hb2.1 (by omega) (by omega)
  go_enter Try.func63, Try.ntmps63
  go_wp2_with fail
  refine (read4_any b off len cap k zs w h (by omega) hl).mono ?_
  rintro e w' ⟨rfl, rfl⟩
  go_wp2_with fail
  rw [show ((k : Int) + 4) = ((k + 4 : Nat) : Int) by omega]
  refine (read4_any b off len cap (k + 4) zs _ h (by omega) hl).mono ?_
  rintro e w' ⟨rfl, rfl⟩
  go_wp2_with fail
  go_ret
  exact ⟨ret_u64 HF.out, rfl⟩

set_option maxHeartbeats 800000 in
theorem implRead_any (a : Option Addr) (len cap : Nat) (zs : List Int) (addr n : Int) (w : World) (h : Byt w a len zs) (hl : len ≤ 1048576) (hc : len ≤ cap)
    (h0 : 0 ≤ addr) (h1 : addr ≤ 18446744073709551615) (h3 : n ≤ 9223372036854775807) :
    Calls Try.prog 17 #[.slice a len cap, .int .u64 addr, .int .i64 n] w fun e w' => e = .returned (.agg #[.bool (goodB len addr n), .int .u64 (rdV zs addr n)]) ∧ Below w.heap.size w w' := by
  have hz := h.1
  cases hg : goodB len addr n
  · have hv : rdV zs addr n = 0 := by simp [rdV, hz, hg]
    rw [hv]
    have HG : Hid (goodB len addr n = false) := hg
    clear hg hv h hz
    go_enter Try.func17, Try.ntmps17
    go_wp2_with (go_at_call 59; refine (holds_any _ _ _ _ _ _ hl h0 h1 h3).mono ?_; rintro e w' ⟨rfl, rfl⟩; rw [HG.out])
    exact bodyPost_ret (v := .agg #[.bool false, .int .u64 0]) (by simp [results, Try.results17, go_sem]) rfl ⟨rfl, ((Below.refl _ _).alloc (Nat.le_refl _) _)⟩
  · have hv : rdV zs addr n = num ((zs.drop addr.toNat).take n.toNat) := by simp [rdV, hz, hg]
    rw [hv]
    have hg' := hg
    simp only [goodB, decide_eq_true_eq] at hg'
    obtain ⟨hn, hn1, hn2⟩ := hg'
    obtain ⟨k, rfl⟩ := Int.eq_ofNat_of_zero_le h0
    obtain ⟨b, off, rfl⟩ : ∃ b off, a = some ⟨b, off, none⟩ := by
      rcases h.2.2 with hy | ⟨b, off, rfl, hb, hcl⟩
      · omega
      · exact ⟨b, off, rfl⟩
    have HG : Hid (goodB len k n = true) := hg
    have HC : ∀ o, Cel (w.alloc o) b off len zs := fun o => Cel.of_byt (h.keep ((Below.refl _ _).alloc (Nat.le_refl _) _))
    clear hg hv h
    rcases hn with rfl | rfl | rfl | rfl
    · have e1 := num_one zs k (by omega)
      rw [show Int.toNat 1 = 1 from rfl, Int.toNat_natCast, e1]
      clear e1
      go_enter Try.func17, Try.ntmps17
      go_wp2_with (first
        | (go_at_call 59; refine (holds_any _ _ _ _ _ _ hl h0 h1 h3).mono ?_; rintro e w' ⟨rfl, rfl⟩; rw [HG.out])
        | (go_at_call 60; refine (read1_any b off len cap k zs _ (HC _) (by omega) hl).mono ?_; rintro e w' ⟨rfl, rfl⟩))
      exact bodyPost_ret (v := .agg #[.bool true, .int .u64 (zs[k]?.getD 0)]) (by simp [results, Try.results17, go_sem]) rfl ⟨rfl, (Below.refl _ _).alloc (Nat.le_refl _) _⟩
    · rw [show Int.toNat 2 = 2 from rfl, Int.toNat_natCast]
      go_enter Try.func17, Try.ntmps17
      go_wp2_with (first
        | (go_at_call 59; refine (holds_any _ _ _ _ _ _ hl h0 h1 h3).mono ?_; rintro e w' ⟨rfl, rfl⟩; rw [HG.out])
        | (go_at_call 61; refine (read2_any b off len cap k zs _ (HC _) (by omega) hl).mono ?_; rintro e w' ⟨rfl, rfl⟩))
      exact bodyPost_ret (v := .agg #[.bool true, .int .u64 (num ((zs.drop k).take 2))]) (by simp [results, Try.results17, go_sem]) rfl ⟨rfl, (Below.refl _ _).alloc (Nat.le_refl _) _⟩
    · rw [show Int.toNat 4 = 4 from rfl, Int.toNat_natCast]
      go_enter Try.func17, Try.ntmps17
      go_wp2_with (first
        | (go_at_call 59; refine (holds_any _ _ _ _ _ _ hl h0 h1 h3).mono ?_; rintro e w' ⟨rfl, rfl⟩; rw [HG.out])
        | (go_at_call 62; refine (read4_any b off len cap k zs _ (HC _) (by omega) hl).mono ?_; rintro e w' ⟨rfl, rfl⟩))
      exact bodyPost_ret (v := .agg #[.bool true, .int .u64 (num ((zs.drop k).take 4))]) (by simp [results, Try.results17, go_sem]) rfl ⟨rfl, (Below.refl _ _).alloc (Nat.le_refl _) _⟩
    · rw [show Int.toNat 8 = 8 from rfl, Int.toNat_natCast]
      go_enter Try.func17, Try.ntmps17
      go_wp2_with (first
        | (go_at_call 59; refine (holds_any _ _ _ _ _ _ hl h0 h1 h3).mono ?_; rintro e w' ⟨rfl, rfl⟩; rw [HG.out])
        | (go_at_call 63; refine (read8_any b off len cap k zs _ (HC _) (by omega) hl).mono ?_; rintro e w' ⟨rfl, rfl⟩))
      exact bodyPost_ret (v := .agg #[.bool true, .int .u64 (num ((zs.drop k).take 8))]) (by simp [results, Try.results17, go_sem]) rfl ⟨rfl, (Below.refl _ _).alloc (Nat.le_refl _) _⟩

end Go.Proofs.Ythekickjjaleaab
