import Derived.Test.YthekickjjaleaacPack17
/- The program's scripts: run. -/
namespace Go.Proofs.Ythekickjjaleaac
open Go.RowKit
set_option linter.unusedVariables false
attribute [local go_sem ↓] Go.wp_at_zero Go.wp_at_succ

theorem write1_own (base g len cap k : Nat) (zs : List Int) (val : Int) (w : World) (h : OwnC 5 1 w base g len cap (bytC zs)) (hz : zs.length = len) (hk : k < len) (hl : len ≤ 1048576) (hv0 : 0 ≤ val) (hv1 : val ≤ 255) :
    Calls Try.prog 51 #[.slice (some ⟨g, 0, none⟩) len cap, .int .u64 k, .int .u64 val] w fun e w' => e = .returned (.tuple #[]) ∧ OwnC 5 1 w' base g len cap (bytC (zs.set k val)) ∧ w.grownBy w' (some g) := by
  have g2 := own_cell h k (.int .u8 (zs[k]?.getD 0)) (by
    have : k < zs.length := by omega
    simp [bytC, this])
  have g3 := own_free h k
  have O2 : Hid (OwnC 5 1 (w.setCell ⟨g, k, none⟩ (.int .u8 val)) base g len cap (bytC (zs.set k val))) := by
    have := own_store h k (.int .u8 val)
    rw [show (bytC zs).set k (.int .u8 val) = bytC (zs.set k val) by simp [bytC, List.map_set]] at this
    exact this
  have G2 : Hid _ := gb_set (gb_refl w (some g)) k (.int .u8 val)
  have hg := (OwnC.facts h).2.2.1
  clear h
  go_enter Try.func51, Try.ntmps51
  go_wp2_with fail
  go_end0
  have e : IntKind.u8.wrap val = val := by show val % 256 = val; omega
  exact ⟨rfl, O2.out, G2.out⟩

theorem numM_two (zs : List Int) (p : Nat) : numM zs p 2 = atM zs p + 256 * atM zs (p + 1) := by
  rw [numM_succ, numM_succ]
  simp [numM, num]

set_option maxHeartbeats 1600000 in
theorem run_any (b len cap p base g n mc : Nat) (a : Option Addr) (zs mem : List Int) (w : World) (hR : RdAt w b a len cap zs p) (hM : OwnC 5 1 w base g n mc (bytC mem)) (hml : mem.length = n) (hn : n ≤ 4096) (hgb : g ≠ b) (hga : 0 < len → ∀ x, a = some x → x.block ≠ g) :
    Calls Try.prog 28 #[.pointer (some ⟨b, 0, none⟩), .slice (some ⟨g, 0, none⟩) n mc] w fun e w' => e = .returned (.tuple #[]) ∧ RdAt w' b a len cap zs (p + 3 + (atM zs (p + 2)).toNat) ∧ OwnC 5 1 w' base g n mc (bytC (layM zs (atM zs (p + 2)).toNat (p + 3) (addrM zs p) mem)) ∧ Keeps w w' b g g := by
  have HR : Hid _ := hR
  have HM : Hid _ := hM
  have HGa : Hid _ := hga
  have HBd : Hid (∀ i : Nat, 0 ≤ atM zs i ∧ atM zs i ≤ 255) := hR.byt.2.1
  clear hR hM hga
  obtain ⟨A, hA⟩ : ∃ A : Nat, addrM zs p = A := ⟨_, rfl⟩
  have hb0 := HBd.out p
  have hb1 := HBd.out (p + 1)
  have hb2 := HBd.out (p + 2)
  have HA : Hid (numM zs p 2 = (A : Int)) := by show _ = _; rw [numM_two, ← hA]; unfold addrM; omega
  have hA2 : A ≤ 65535 := by rw [← hA]; unfold addrM; omega
  obtain ⟨m, hm⟩ : ∃ m : Nat, atM zs (p + 2) = m := ⟨(atM zs (p + 2)).toNat, by omega⟩
  have Hm : Hid _ := hm
  rw [hm] at hb2
  have hm2 : m ≤ 255 := by omega
  rw [hA, hm, Int.toNat_natCast]
  clear hA hm hb0 hb1 hb2
  go_enter Try.func28, Try.ntmps28
  go_wp2_with fail
  refine (number_any b len cap p 2 a zs w HR.out (by omega)).mono ?_
  rintro e v1 ⟨rfl, hR1, hG1⟩
  rw [HA.out]
  have HR1 : Hid _ := hR1
  have HG1 : Hid _ := hG1
  clear hR1 hG1
  go_wp2_with fail
  refine (next_any b len cap (p + 2) a zs v1 HR1.out).mono ?_
  rintro e v2 ⟨rfl, hR2, hG2⟩
  rw [Hm.out]
  have hG := gb_trans HG1.out hG2
  have HR2 : Hid _ := hR2
  have HM2 : Hid _ := OwnC.gb HM.out hG hgb
  have K2 : Hid (Keeps w v2 b g g) := Keeps.of_gb b g g hG (.inl rfl)
  clear hR2 hG2 hG HG1 HR1
  go_wp2_with fail
  go_loopw [4, 10] (fun av cv wr => ∃ (k : Nat) (mk : List Int), k ≤ m ∧ cv = .int .u8 k ∧ av = .int .u64 ((A + k : Nat) : Int) ∧ RdAt wr b a len cap zs (p + 3 + k) ∧ layM zs m (p + 3) A mem = layM zs (m - k) (p + 3 + k) (A + k) mk ∧ mk.length = n ∧ OwnC 5 1 wr base g n mc (bytC mk) ∧ Keeps w wr b g g) (fun _ cv _ => m - (intOf cv).toNat)
  case atStart => exact ⟨0, mem, Nat.zero_le _, rfl, rfl, HR2.out, rfl, hml, HM2.out, K2.out⟩
  case round =>
    clear HR2 HM2 K2
    obtain ⟨k, mk, hk, rfl, rfl, hRk, hLk, hmk, hOk, hKk⟩ := hrel
    have HRk : Hid _ := hRk
    have HLk : Hid _ := hLk
    have HOk : Hid _ := hOk
    have HKk : Hid _ := hKk
    clear hRk hLk hOk hKk
    by_cases hkm : k < m
    · obtain ⟨z, hz⟩ : ∃ z, atM zs (p + 3 + k) = z := ⟨_, rfl⟩
      have HZ : Hid _ := hz
      have bz := HBd.out (p + 3 + k)
      rw [hz] at bz
      obtain ⟨hz1, hz2⟩ := bz
      clear hz
      go_wp2_with fail
      refine (next_any b len cap (p + 3 + k) a zs wr HRk.out).mono ?_
      rintro e v3 ⟨rfl, hR3, hG3⟩
      rw [HZ.out]
      have HR3 : Hid _ := hR3
      have HO3 : Hid _ := OwnC.gb HOk.out hG3 hgb
      have K3 : Hid (Keeps w v3 b g g) := Keeps.trans HKk.out (Keeps.of_gb b g g hG3 (.inl rfl))
      clear hR3 hG3
      by_cases hin : A + k < n
      · have HI : Hid (insB n ((A + k : Nat) : Int) 1 = true) := by show _ = _; simp only [insB, decide_eq_true_eq]; omega
        go_wp2_with fail
        refine (has_any (some ⟨g, 0, none⟩) n mc ((A + k : Nat) : Int) 1 v3 (by omega) (by omega) (by omega) (by omega) (by omega)).mono ?_
        rintro e v' ⟨rfl, hv'⟩
        rw [hv', HI.out]
        clear hv' v'
        go_wp2_with fail
        refine (write1_own base g n mc (A + k) mk z v3 HO3.out hmk hin (by omega) hz1 hz2).mono ?_
        rintro e v4 ⟨rfl, hO4, hG4⟩
        have HO4 : Hid _ := hO4
        have HR4 : Hid _ := HR3.out.gb hG4 (Ne.symm hgb) HGa.out
        have K4 : Hid (Keeps w v4 b g g) := Keeps.trans K3.out (Keeps.of_gb b g g hG4 (.inr (.inl rfl)))
        clear hO4 hG4
        go_wp2_with fail
        refine ⟨⟨k + 1, mk.set (A + k) z, by omega, by go_num, by go_num, HR4.out, ?_, by rw [List.length_set]; exact hmk, HO4.out, K4.out⟩, ?_⟩
        · rw [HLk.out, show m - k = (m - (k + 1)) + 1 by omega, layM, if_pos (by omega), HZ.out]
          rfl
        · simp [intOf]
          omega
      · have HI : Hid (insB n ((A + k : Nat) : Int) 1 = false) := by show _ = _; simp only [insB, decide_eq_false_iff_not]; omega
        go_wp2_with fail
        refine (has_any (some ⟨g, 0, none⟩) n mc ((A + k : Nat) : Int) 1 v3 (by omega) (by omega) (by omega) (by omega) (by omega)).mono ?_
        rintro e v' ⟨rfl, hv'⟩
        rw [hv', HI.out]
        clear hv' v'
        go_wp2_with fail
        refine ⟨⟨k + 1, mk, by omega, by go_num, by go_num, HR3.out, ?_, hmk, HO3.out, K3.out⟩, ?_⟩
        · rw [HLk.out, show m - k = (m - (k + 1)) + 1 by omega, layM, if_neg (by omega)]
          rfl
        · simp [intOf]
          omega
    · have hkm' : k = m := by omega
      subst hkm'
      go_wp2_with fail
      go_end0
      have e := HLk.out
      rw [Nat.sub_self, layM] at e
      rw [e]
      exact ⟨rfl, HRk.out, HOk.out, HKk.out⟩

end Go.Proofs.Ythekickjjaleaac
