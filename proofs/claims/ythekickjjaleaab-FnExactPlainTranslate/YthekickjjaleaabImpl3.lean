/- The program's walk: entryAddr, entryAt, the codes of faults. -/
import Derived.Test.YthekickjjaleaabImpl2g
import Derived.Test.YthekickjjaleaabImpl1
import Derived.Test.YthekickjjaleaabSpec3w
namespace Go.Proofs.Ythekickjjaleaab
open Go.RowKit
set_option linter.unusedVariables false

theorem entryAddr_at (n level va : Int) (w : World) (hv0 : 0 ≤ va) (hv1 : va ≤ 18446744073709551615) (hl : level = 0 ∨ level = 1 ∨ level = 2) (hn0 : 0 ≤ n) (hn1 : n < 17592186044416) :
    Calls Try.prog 152 #[.int .u64 n, .int .i64 level, .int .u64 va] w fun e w' => e = .returned (.int .u64 (64 * n + 8 * idxM va level)) ∧ ∃ q, w' = w.drewN q := by
  obtain ⟨ix, hix⟩ : ∃ ix, idxM va level = ix := ⟨_, rfl⟩
  have hib := idxM_bd va level
  have HI : Hid (idxM va level = ix) := hix
  have HE : Hid (n * 64 + ix * 8 = 64 * n + 8 * ix) := show _ = _ by omega
  rw [hix] at hib ⊢
  clear hix
  go_enter Try.func152, Try.ntmps152
  go_wp2_with fail
  refine (index_at va level w hv0 hv1 hl).mono ?_
  rintro e w' ⟨rfl, nq, rfl⟩
  rw [HI.out]
  go_wp2_with fail
  go_ret
  exact ⟨ret_u64 HE.out, nq, rfl⟩

theorem entryAt_out (a : Option Addr) (len cap : Nat) (addr : Int) (w : World) (hl : len ≤ 1048576) (h0 : 0 ≤ addr) (h1 : addr ≤ 18446744073709551615) (hg : goodB len addr 8 = false) :
    Calls Try.prog 174 #[.slice a len cap, .int .u64 addr] w fun e w' => e = .returned (.tuple #[.int .u64 0, .bool false]) ∧ w' = w := by
  have HG : Hid (goodB len addr 8 = false) := hg
  clear hg
  go_enter Try.func174, Try.ntmps174
  go_wp2_with (go_at_call 59; refine (holds_any _ _ _ _ _ _ hl h0 h1 (by omega)).mono ?_; rintro e w' ⟨rfl, rfl⟩; rw [HG.out])
  exact bodyPost_ret (v := .tuple #[.int .u64 0, .bool false]) (by simp [results, Try.results174, go_sem]) rfl ⟨rfl, rfl⟩

theorem entryAt_in (a : Option Addr) (len cap : Nat) (zs : List Int) (addr : Int) (w : World) (h : Byt w a len zs) (hl : len ≤ 1048576) (h0 : 0 ≤ addr) (h1 : addr ≤ 18446744073709551615) (hg : goodB len addr 8 = true) :
    Calls Try.prog 174 #[.slice a len cap, .int .u64 addr] w fun e w' => e = .returned (.tuple #[.int .u64 (rdV zs addr 8), .bool true]) ∧ w' = w := by
  have hz := h.1
  have hv : rdV zs addr 8 = num ((zs.drop addr.toNat).take 8) := by simp [rdV, hz, hg]
  rw [hv]
  have hg' := hg
  simp only [goodB, decide_eq_true_eq] at hg'
  obtain ⟨hn, hn1, hn2⟩ := hg'
  obtain ⟨k, rfl⟩ := Int.eq_ofNat_of_zero_le h0
  obtain ⟨b, off, rfl⟩ : ∃ b off, a = some ⟨b, off, none⟩ := by
    rcases h.2.2 with hy | ⟨b, off, rfl, hb, hcl⟩
    · omega
    · exact ⟨b, off, rfl⟩
  have HG : Hid (goodB len k 8 = true) := hg
  have HC : Cel w b off len zs := Cel.of_byt h
  clear hg hv h
  rw [Int.toNat_natCast]
  go_enter Try.func174, Try.ntmps174
  go_wp2_with (first
    | (go_at_call 59; refine (holds_any _ _ _ _ _ _ hl h0 h1 (by omega)).mono ?_; rintro e w' ⟨rfl, rfl⟩; rw [HG.out])
    | (go_at_call 63; refine (read8_any b off len cap k zs _ HC (by omega) hl).mono ?_; rintro e w' ⟨rfl, rfl⟩))
  exact bodyPost_ret (v := .tuple #[.int .u64 (num ((zs.drop k).take 8)), .bool true]) (by simp [results, Try.results174, go_sem]) rfl ⟨rfl, rfl⟩

end Go.Proofs.Ythekickjjaleaab
