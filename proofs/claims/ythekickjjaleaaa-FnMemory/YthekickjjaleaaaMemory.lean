/- The proof of Rows.FnMemorySaid: the frame is the kit's shell, the walk is mine. -/
import Derived.Test.YthekickjjaleaaaRows
import Derived.Test.YthekickjjaleaaaDraw1
import Derived.WalkKit
import Derived.ProofKit
import Derived.OpenShut
import Derived.ShutString
import Derived.ChangeOld
import Derived.Below
namespace Go.Proofs.Ythekickjjaleaaa.fnMemory
open Go.ChangeShapes Go.WideShapes Go.ChangeAt Go.RowKit
open Go.ChangeMaps (open_string shut_string)
set_option linter.unusedVariables false

theorem own : ownKnob Try.prog.godebug = none := by kernel_rfl
theorem laidOut : laidOutB Try.prog = true := by kernel_rfl

/-- WHAT THE WALK IS TOLD OF A SLICE OF INTEGERS THAT CAME IN: it is nil; or it leads to a row of 'cap' cells, the numbers 'zs' (the first 'len' are its elements, the rest its spare room), each fitting its kind. -/
def IsRow (k : IntKind) (w : World) (a : Option Addr) (len cap : Nat) (zs : List Int) : Prop :=
  (a = none ∧ len = 0 ∧ cap = 0 ∧ zs = []) ∨
  ∃ x, a = some x ∧ len ≤ cap ∧ cap ≤ maxLen ∧ zs.length = cap ∧ (∀ i, i < zs.length → w.cell? (x.add i) = some (.int k (zs.getD i 0))) ∧ ∀ n ∈ zs, (Lit.int k n).wf = true

/-! ### STEP 1: THE WALK: the Go text returns true, AND WRITES NOTHING THAT WAS THERE: 'Below w.heap.size w w'' (Derived/Below.lean: '.refl', '.alloc', '.drew', '.setCell' at a new block, '.trans'). Open each 'IsRow' by 'rcases' AHEAD of 'go_enter'; part every test ahead of the walk. -/
theorem walk (a0 : Option Addr) (len0 cap0 : Nat) (z0 : List Int) (w : World) (w0 : IsRow .u8 w a0 len0 cap0 z0) :
    Calls Try.prog 3 #[.slice a0 len0 cap0] w fun e w' => e = .returned (.bool true) ∧ Below w.heap.size w w' := by
  obtain ⟨hB, hlc, hcm⟩ := Byt.of_row w0
  clear w0
  generalize z0.take len0 = zs at *
  by_cases hlen : len0 ≤ 1048576
  · go_enter Try.func3, Try.ntmps3
    go_wp2_with fail
    refine (DrawWriteMem_any a0 len0 cap0 zs w hB hlen).mono ?_
    rintro e v1 ⟨g, n, cp, ys, ad, wd, x, rfl, hn, hcp, hcm1, B1, had, hwd, hx, n1⟩
    clear hB hlc hcm
    have hy := B1.1
    have hbd := B1.2.1
    have hg : g < v1.heap.size ∨ n = 0 := by
      rcases B1.2.2 with h | ⟨b, off, e, hb, _⟩
      · exact .inr h
      · cases e; exact .inl hb
    have HBD : Hid _ := hbd
    clear hbd
    go_wp2_with fail
    refine (implWrite_any (some ⟨g, 0, none⟩) n cp ys ad wd x v1 B1 (by omega) had.1 had.2 (by omega) hx.1 hx.2).mono ?_
    rintro e v2 ⟨rfl, k2, n2⟩
    have n12 := Below.step n1 n2 (Nat.le_refl _)
    have B2 := B1.keep n2
    have l2 := k2.lt
    clear B1 n1 n2
    go_wp2_with fail
    refine (specRead_any (some ⟨g, 0, none⟩) n cp ys ad wd v2 B2 (by omega) hcp hcm1 had.1 had.2 (by omega)).mono ?_
    rintro e v3 ⟨rfl, n3⟩
    have n13 := Below.step n12 n3 (Nat.le_refl _)
    have B3 := B2.keep n3
    have k3 := k2.keep n3 l2
    clear B2 k2 n12 n3
    have hrr := run_rr0
    have hwl : (wrL ys ad wd x).length = n := wrL_len ys ad wd x n hy had.1
    have hg3 : 0 < n → g < v3.heap.size := by
      intro h0
      rcases B3.2.2 with h | ⟨b, off, e, hb, _⟩
      · omega
      · cases e; exact hb
    have M3 : Hid (∀ i, i < n → v3.cell? ⟨g, i, none⟩ = some (.int .u8 (ys[i]?.getD 0))) := by
      intro i hi
      rcases B3.2.2 with h | ⟨b, off, e, hb, hc⟩
      · omega
      · cases e; simpa using hc i hi
    clear B3
    cases hgd : goodB n ad wd
    · have hw : wrL ys ad wd x = ys := by simp [wrL, hy, hgd]
      have hr : rdV (wrL ys ad wd x) ad wd = 0 := by simp [rdV, hwl, hgd]
      rw [hw] at k3 hr
      have HG : Hid (goodB n ad wd = false) := hgd
      have HR : Hid (rdV ys ad wd = 0) := hr
      clear hw hr hwl hgd
      go_wp2_with fail
      go_loopw [9] (fun i wr => ∃ k : Nat, k ≤ n ∧ i = .int .i64 k ∧ ∃ q, wr = v3.drewN q) (fun i _ => n - (intOf i).toNat)
      case atStart => exact ⟨0, Nat.zero_le _, rfl, 0, rfl⟩
      case round =>
        obtain ⟨k, hk, rfl, q, rfl⟩ := hrel
        by_cases hlt : k < n
        · have c1 := M3.out k hlt
          have c2 := k3.cell k (by omega)
          go_wp2_with fail
          go_quiet (fail)
          go_wp2_with fail
          go_roundw
          case rel => exact ⟨k + 1, by omega, by go_num, _, rfl⟩
          case measure => simp [intOf]; omega
        · go_wp2_with fail
          have k4 : Blk 5 (v3.drewN q) v1.heap.size ys := k3
          have B4 : Byt (v3.drewN q) (some ⟨v1.heap.size, 0, none⟩) n ys := hy ▸ k4.byt HBD.out
          have n4 : Below w.heap.size w (v3.drewN q) := below_drewN n13 q
          refine (implRead_any (some ⟨v1.heap.size, 0, none⟩) n n ys ad wd _ B4 (by omega) (Nat.le_refl _) had.1 had.2 (by omega)).mono ?_
          rintro e v5 ⟨rfl, n5⟩
          rw [HG.out, HR.out]
          have n15 := Below.step n4 n5 (Nat.le_refl _)
          clear B4 n4 n5 k4 k3 n13
          go_wp2_with fail
          go_ret
          exact ⟨rfl, n15.alloc n15.size _⟩
    · have HW : Hid (rdV (wrL ys ad wd x) ad wd = x % 256 ^ wd.toNat) := rd_wr ys ad wd x had.1 hx.1 (hy ▸ hgd)
      have HS : Hid (∀ i : Nat, ((i : Int) < ad ∨ ad + wd ≤ i) → (wrL ys ad wd x)[i]?.getD 0 = ys[i]?.getD 0) := fun i hi => wrL_same ys ad wd x i had.1 (hy ▸ hgd) hi
      have hb2 := wrL_bd ys ad wd x HBD.out
      have HB2 : Hid _ := hb2
      have hg' := hgd
      simp only [goodB, decide_eq_true_eq] at hg'
      obtain ⟨hwc, hw1, hw2⟩ := hg'
      have HG : Hid (goodB n ad wd = true) := hgd
      have HC : Hid (wd = 1 ∨ wd = 2 ∨ wd = 4 ∨ wd = 8) := hwc
      have hw0 : 1 ≤ wd := by omega
      clear hgd hb2 hwc
      generalize hL : wrL ys ad wd x = L at *
      have HL : Hid _ := hL
      clear hL
      go_wp2_with fail
      go_loopw [9] (fun i wr => ∃ k : Nat, k ≤ n ∧ i = .int .i64 k ∧ ∃ q, wr = v3.drewN q) (fun i _ => n - (intOf i).toNat)
      case atStart => exact ⟨0, Nat.zero_le _, rfl, 0, rfl⟩
      case round =>
        obtain ⟨k, hk, rfl, q, rfl⟩ := hrel
        by_cases hlt : k < n
        · have c1 := M3.out k hlt
          have c2 := k3.cell k (by omega)
          by_cases hin : (k : Int) < ad
          · rw [HS.out k (.inl hin)] at c2
            go_wp2_with fail
            go_quiet (fail)
            go_wp2_with fail
            go_roundw
            case rel => exact ⟨k + 1, by omega, by go_num, _, rfl⟩
            case measure => simp [intOf]; omega
          · have hin' : decide ((k : Int) < ad) = false := by simpa using hin
            by_cases hou : ad + wd ≤ (k : Int)
            · rw [HS.out k (.inr hou)] at c2
              go_wp2_with fail
              go_quiet (fail)
              go_wp2_with fail
              go_roundw
              case rel => exact ⟨k + 1, by omega, by go_num, _, rfl⟩
              case measure => simp [intOf]; omega
            · have hou' : decide (ad + wd ≤ (k : Int)) = false := by simpa using hou
              clear c1 c2
              go_wp2_with fail
              go_quiet (fail)
              go_wp2_with fail
              go_roundw
              case rel => exact ⟨k + 1, by omega, by go_num, _, rfl⟩
              case measure => simp [intOf]; omega
        · go_wp2_with fail
          have k4 : Blk 5 (v3.drewN q) v1.heap.size L := k3
          have B4 : Byt (v3.drewN q) (some ⟨v1.heap.size, 0, none⟩) n L := hwl ▸ k4.byt HB2.out
          have n4 : Below w.heap.size w (v3.drewN q) := below_drewN n13 q
          refine (implRead_any (some ⟨v1.heap.size, 0, none⟩) n n L ad wd _ B4 (by omega) (Nat.le_refl _) had.1 had.2 (by omega)).mono ?_
          rintro e v5 ⟨rfl, n5⟩
          rw [HG.out, HW.out]
          have n15 := Below.step n4 n5 (Nat.le_refl _)
          clear B4 n4 n5 k4 k3 n13
          rcases HC.out with rfl | rfl | rfl | rfl
          · go_wp2_with fail
            go_ret
            exact ⟨ret_true (beq_iff_eq.2 (mask_u64 8 x 255 rfl (by omega) hx.1 hx.2).symm), n15.alloc n15.size _⟩
          · go_wp2_with fail
            go_ret
            exact ⟨ret_true (beq_iff_eq.2 (mask_u64 16 x 65535 rfl (by omega) hx.1 hx.2).symm), n15.alloc n15.size _⟩
          · go_wp2_with fail
            go_ret
            exact ⟨ret_true (beq_iff_eq.2 (mask_u64 32 x 4294967295 rfl (by omega) hx.1 hx.2).symm), n15.alloc n15.size _⟩
          · go_wp2_with fail
            go_ret
            exact ⟨ret_true (beq_iff_eq.2 (Int.emod_eq_of_lt hx.1 (by omega))), n15.alloc n15.size _⟩
  · go_enter Try.func3, Try.ntmps3
    go_wp2_with fail
    go_ret
    exact ⟨rfl, Below.refl _ _⟩

/-! ### THE ROW's STEP: WRITTEN OUT: LEAVE IT -/
set_option maxRecDepth 100000 in
theorem lifted (os : Os) (started : os.Started) (H : Type) (enc : TypeId × Value → H) :
    ReturnsInHanded {} Try.checked os 3 .any (Rows.fnMemorySpec.pre6 enc Try.prog Try.f3 Rows.fnMemoryRow.domain false) (Rows.fnMemorySpec.post enc Try.prog Try.f3 false true false false) := by
  refine returnsInHanded_of_change (C := Try.checked) own started (by kernel_rfl) Try.func3
    (ChangeSpec.witness6 (enc := enc) (C := Try.checked) false ⟨#[], #[.slice none 0 0], []⟩ 8 (by kernel_rfl) (by kernel_rfl) (by kernel_rfl) (by kernel_rfl)) ?_
  intro W base args ds gs before hval0 hW hcnd _
  have hval : ∀ (j : Nat) t v, Try.f3.params[j]? = some t → args[j]? = some v → Value.okWide Try.prog W .any base t v := hval0
  have hW' := hW
  obtain ⟨p, q, hA0, hV, rfl, hfz, hnd⟩ := hW
  have hA : DataW.TrodAll enc Try.prog W 0 (fun _ => true) true Try.f3.params.toList args.toList ds p := hA0
  rw [Try.params3] at hA hval
  obtain ⟨v0, vs0, d0, ds0, p0, q0, hargs, rfl, rfl, h0, r0⟩ := trodAll_cons hA
  obtain ⟨rfl, rfl, rfl⟩ := trodAll_nil r0
  obtain rfl : args = #[v0] := by cases args; simp_all
  obtain ⟨rfl, rfl⟩ := trodVars_none hV
  obtain ⟨a0, len0, cap0, rfl⟩ := okWide_slice Try.underlying22 (hval 0 22 v0 rfl rfl)
  have k0 := h0
  have lt0 : ∀ x ∈ p0, x.block < W.heap.size := by obtain ⟨m, hm⟩ := k0; exact DataW.trod_lt m _ _ _ hm
  obtain ⟨z0, w0⟩ : ∃ zs, IsRow .u8 W a0 len0 cap0 zs := by
    obtain ⟨fuel, hf⟩ := h0
    rcases open_ints Try.underlying22 Try.underlying5 (by kernel_rfl) hf with ⟨hcs, _⟩ | ⟨x, l, c, zs, hcs, _, hl, hm, hz, _, hcell, hwz⟩
    · simp [Value.cells] at hcs
      obtain ⟨rfl, rfl, rfl⟩ := hcs
      exact ⟨[], .inl ⟨rfl, rfl, rfl, rfl⟩⟩
    · simp [Value.cells] at hcs
      obtain ⟨rfl, rfl, rfl⟩ := hcs
      exact ⟨zs, .inr ⟨_, rfl, hl, hm, by simpa using hz, hcell, hwz⟩⟩
  clear hA0 hval0
  refine (walk a0 len0 cap0 z0 W w0).mono fun e W' ⟨he, bel⟩ => ?_
  subst he
  exact ⟨_, rfl, _, _, _, [], _, [], hW', trodAll_mk1 (shut_bool Try.underlying4 _), (trodAll_cons_mk (Below.trod laidOut (by kernel_rfl) (of_decide_eq_true (by kernel_rfl)) k0 bel lt0) trodAll_mk0), rfl, bel.frame _, fun h => by cases h⟩

theorem over : Rows.fnMemoryRow.holds Try.pinned (OpenSpec.ofChange Rows.fnMemorySpec) :=
  OpenClaim.holds_of_wide 3 Try.f3 rfl rfl rfl rfl rfl rfl rfl ⟨rfl, rfl, rfl, rfl, rfl⟩ rfl rfl rfl rfl rfl (by kernel_rfl) Try.func3 (by kernel_rfl)
    (of_decide_eq_true (by kernel_rfl)) (by unfold Func.isWrapper; first | (rw [if_pos (by decide +kernel)]; kernel_rfl) | (rw [if_neg (by decide +kernel)]; exact ⟨rfl, rfl⟩))
    (fun os started H enc _ => lifted os started H enc)

/-- ████ THE STATEMENT ████ -/
theorem proved : Rows.FnMemorySaid := over
#print axioms proved
end Go.Proofs.Ythekickjjaleaaa.fnMemory

namespace Go.Proofs.Ythekickjjaleaaa
theorem fnMemory_holds : Rows.FnMemorySaid := fnMemory.proved
end Go.Proofs.Ythekickjjaleaaa
