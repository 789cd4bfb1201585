/- The proof of Rows.FnExactWriteMemSaid: the frame is the kit's shell, the walk is mine. -/
import Derived.Test.YthekickjjaleaabRows
import Derived.Test.YthekickjjaleaabMarks
import Derived.WalkKit
import Derived.ProofKit
import Derived.OpenShut
import Derived.ShutString
import Derived.ChangeOld
import Derived.Below
namespace Go.Proofs.Ythekickjjaleaab.fnExactWriteMem
open Go.ChangeShapes Go.WideShapes Go.ChangeAt Go.RowKit
open Go.ChangeMaps (open_string shut_string)
set_option linter.unusedVariables false

theorem own : ownKnob Try.prog.godebug = none := by kernel_rfl
theorem laidOut : laidOutB Try.prog = true := by kernel_rfl

/-- WHAT THE WALK IS TOLD OF A SLICE OF INTEGERS THAT CAME IN: it is nil; or it leads to a row of 'cap' cells, the numbers 'zs' (the first 'len' are its elements, the rest its spare room), each fitting its kind. -/
def IsRow (k : IntKind) (w : World) (a : Option Addr) (len cap : Nat) (zs : List Int) : Prop :=
  (a = none ∧ len = 0 ∧ cap = 0 ∧ zs = []) ∨
  ∃ x, a = some x ∧ len ≤ cap ∧ cap ≤ maxLen ∧ zs.length = cap ∧ (∀ i, i < zs.length → w.cell? (x.add i) = some (.int k (zs.getD i 0))) ∧ ∀ n ∈ zs, (Lit.int k n).wf = true

/-! ### STEP 1: THE WALK: the Go text returns true, AND WRITES NOTHING THAT WAS THERE: 'Below w.heap.size w w'' (Derived/Below.lean: '.refl', '.alloc', '.drew', '.setCell' at a new block, '.trans'). Open each 'IsRow' by 'rcases' AHEAD of 'go_enter'; part every test ahead of the walk. -/
theorem walk (a0 : Option Addr) (len0 cap0 : Nat) (z0 : List Int) (a1 : Int) (a2 : Int) (a3 : Int) (w : World) (w0 : IsRow .u8 w a0 len0 cap0 z0) (w1 : (Lit.int .u64 a1).wf = true) (w2 : (Lit.int .i64 a2).wf = true) (w3 : (Lit.int .u64 a3).wf = true) :
    Calls Try.prog 4 #[.slice a0 len0 cap0, .int .u64 a1, .int .i64 a2, .int .u64 a3] w fun e w' => e = .returned (.bool true) ∧ Below w.heap.size w w' := by
  obtain ⟨hB, hlc, hcm⟩ := Byt.of_row w0
  have b1 := bounds_u64 w1
  have b2 := bounds_i64 w2
  have b3 := bounds_u64 w3
  have hz := hB.1
  have hbd := hB.2.1
  clear w0 w1 w2 w3
  generalize z0.take len0 = zs at *
  have hwl : (wrL zs a1 a2 a3).length = len0 := wrL_len zs a1 a2 a3 len0 hz b1.1
  have hwb := wrL_bd zs a1 a2 a3 hbd
  by_cases hlen : len0 ≤ 1048576
  · go_enter Try.func4, Try.ntmps4
    go_wp2_with fail
    refine (toByteS_any a0 len0 cap0 zs w hB hlen).mono ?_
    rintro e v1 ⟨rfl, k1, n1⟩
    have B1 : Byt v1 (some ⟨w.heap.size, 0, none⟩) len0 zs := hz ▸ k1.byt hbd
    have HWB : Hid _ := hwb
    have HBD : Hid _ := hbd
    clear hwb hbd
    go_wp2_with fail
    refine (specWrite_any w.heap.size 0 len0 len0 zs a1 a2 a3 v1 B1 hlen (Nat.le_refl _) (by omega) b1.1 b1.2 b2.2 b3.1 b3.2).mono ?_
    rintro e v2 ⟨g2, c2, rfl, o2, n2⟩
    have n12 := Below.step n1 n2 (Nat.le_refl _)
    have W2 := o2.byt HWB.out
    have f2 := o2.facts
    clear B1 k1 n1 n2 o2
    go_wp2_with fail
    refine (toByteS_any a0 len0 cap0 zs v2 (hB.keep n12) hlen).mono ?_
    rintro e v3 ⟨rfl, k3, n3⟩
    have n13 := Below.step n12 n3 (Nat.le_refl _)
    have W3 := W2.keep n3
    have l2 := n12.size
    have l3 := k3.lt
    go_wp2_with fail
    have X3 : Byt v3 (some ⟨v2.heap.size, 0, none⟩) len0 zs := hz ▸ k3.byt HBD.out
    refine (implWrite_any (some ⟨v2.heap.size, 0, none⟩) len0 len0 zs a1 a2 a3 v3 X3 hlen b1.1 b1.2 b2.2 b3.1 b3.2).mono ?_
    rintro e v4 ⟨rfl, k4, n4⟩
    have n14 := Below.step n13 n4 (Nat.le_refl _)
    have W4 := W3.keep n4
    have X4 := k3.keep n4 l3
    have l4 := k4.lt
    clear W3 W2 n12 n3 n13 X3 k3 n4
    go_wp2_with fail
    have G4 : Byt v4 (some ⟨v3.heap.size, 0, none⟩) len0 (wrL zs a1 a2 a3) := hwl ▸ k4.byt HWB.out
    refine (eqByteS_same _ _ len0 len0 c2 (wrL zs a1 a2 a3) v4 G4 W4 hlen).mono ?_
    rintro e v5 ⟨rfl, n5⟩
    have n15 := Below.step n14 n5 (Nat.le_refl _)
    have W5 := W4.keep n5
    have X5 := X4.keep n5 (by omega)
    have G5 := k4.keep n5 l4
    have l5 := G5.lt
    clear W4 X4 k4 G4 n14 n5
    go_wp2_with fail
    refine (toByteS_any a0 len0 cap0 zs v5 (hB.keep n15) hlen).mono ?_
    rintro e v6 ⟨rfl, k6, n6⟩
    have n16 := Below.step n15 n6 (Nat.le_refl _)
    have W6 := W5.keep n6
    have X6 := X5.keep n6 (by omega)
    have G6 := G5.keep n6 l5
    have l6 := G6.lt
    clear W5 X5 G5 n15 n6
    go_wp2_with fail
    have Y6 : Byt v6 (some ⟨v5.heap.size, 0, none⟩) len0 zs := hz ▸ k6.byt HBD.out
    have X6' : Byt v6 (some ⟨v2.heap.size, 0, none⟩) len0 zs := hz ▸ X6.byt HBD.out
    refine (eqByteS_same _ _ len0 len0 len0 zs v6 X6' Y6 hlen).mono ?_
    rintro e v7 ⟨rfl, n7⟩
    have n17 := Below.step n16 n7 (Nat.le_refl _)
    have W7 := W6.keep n7
    have X7 := X6.keep n7 (by omega)
    have G7 := G6.keep n7 l6
    have l7 := G7.lt
    clear W6 X6 G6 n16 n7 X6' Y6 k6
    go_wp2_with fail
    refine (markByteS_any v2.heap.size len0 len0 zs 1 v7 X7 hz hlen (by omega) (by omega)).mono ?_
    rintro e v8 ⟨rfl, k8, m8⟩
    have n18 := Below.gb n17 m8 l2 X7.lt
    have W8 := W7.gb m8 (by omega)
    have G8 := G7.gb m8 (by omega)
    have l8 := G8.lt
    clear W7 X7 G7 n17 m8 k8
    have hk8 : decide ((1 : Int) + (len0 : Int) < 0) = false := by simp; omega
    go_wp2_with fail
    have G8' : Byt v8 (some ⟨v3.heap.size, 0, none⟩) len0 (wrL zs a1 a2 a3) := hwl ▸ G8.byt HWB.out
    refine (eqByteS_same _ _ len0 len0 c2 (wrL zs a1 a2 a3) v8 G8' W8 hlen).mono ?_
    rintro e v9 ⟨rfl, n9⟩
    have n19 := Below.step n18 n9 (Nat.le_refl _)
    have W9 := W8.keep n9
    have G9 := G8.keep n9 l8
    have l9 := G9.lt
    clear W8 G8 G8' n18 n9
    go_wp2_with fail
    refine (markByteS_any v3.heap.size len0 len0 _ 1 v9 G9 hwl hlen (by omega) (by omega)).mono ?_
    rintro e v10 ⟨rfl, k10, m10⟩
    have n110 := Below.gb n19 m10 (by omega) l9
    have W10 := W9.gb m10 (by omega)
    clear W9 G9 n19 m10
    go_wp2_with fail
    refine (heldByteS_any v3.heap.size len0 len0 1 v10 k10 hlen (by omega) (by omega)).mono ?_
    rintro e v11 ⟨rfl, rfl⟩
    clear k10
    go_wp2_with fail
    refine (toByteS_any a0 len0 cap0 zs v11 (hB.keep n110) hlen).mono ?_
    rintro e v12 ⟨rfl, k12, n12⟩
    have n112 := Below.step n110 n12 (Nat.le_refl _)
    have W12 := W10.keep n12
    clear W10 n110 n12
    go_wp2_with fail
    have X12 : Byt v12 (some ⟨v11.heap.size, 0, none⟩) len0 zs := hz ▸ k12.byt HBD.out
    refine (implWrite_any (some ⟨v11.heap.size, 0, none⟩) len0 len0 zs a1 a2 a3 v12 X12 hlen b1.1 b1.2 b2.2 b3.1 b3.2).mono ?_
    rintro e v13 ⟨rfl, k13, n13⟩
    have n113 := Below.step n112 n13 (Nat.le_refl _)
    have W13 := W12.keep n13
    have G13 : Byt v13 (some ⟨v12.heap.size, 0, none⟩) len0 (wrL zs a1 a2 a3) := hwl ▸ k13.byt HWB.out
    clear W12 n112 n13 k13 X12 k12
    go_wp2_with fail
    refine (eqByteS_same _ _ len0 len0 c2 (wrL zs a1 a2 a3) v13 G13 W13 hlen).mono ?_
    rintro e v14 ⟨rfl, n14⟩
    have n114 := Below.step n113 n14 (Nat.le_refl _)
    clear W13 G13 n113 n14
    go_wp2_with fail
    go_ret
    exact ⟨rfl, n114⟩
  · go_enter Try.func4, Try.ntmps4
    go_wp2_with fail
    go_ret
    exact ⟨rfl, Below.refl _ _⟩

/-! ### THE ROW's STEP: WRITTEN OUT: LEAVE IT -/
set_option maxRecDepth 100000 in
theorem lifted (os : Os) (started : os.Started) (H : Type) (enc : TypeId × Value → H) :
    ReturnsInHanded {} Try.checked os 4 .any (Rows.fnExactWriteMemSpec.pre6 enc Try.prog Try.f4 Rows.fnExactWriteMemRow.domain false) (Rows.fnExactWriteMemSpec.post enc Try.prog Try.f4 false true false false) := by
  refine returnsInHanded_of_change (C := Try.checked) own started (by kernel_rfl) Try.func4
    (ChangeSpec.witness6 (enc := enc) (C := Try.checked) false ⟨#[], #[.slice none 0 0, .int .u64 0, .int .i64 0, .int .u64 0], []⟩ 8 (by kernel_rfl) (by kernel_rfl) (by kernel_rfl) (by kernel_rfl)) ?_
  intro W base args ds gs before hval0 hW hcnd _
  have hval : ∀ (j : Nat) t v, Try.f4.params[j]? = some t → args[j]? = some v → Value.okWide Try.prog W .any base t v := hval0
  have hW' := hW
  obtain ⟨p, q, hA0, hV, rfl, hfz, hnd⟩ := hW
  have hA : DataW.TrodAll enc Try.prog W 0 (fun _ => true) true Try.f4.params.toList args.toList ds p := hA0
  rw [Try.params4] at hA hval
  obtain ⟨v0, vs0, d0, ds0, p0, q0, hargs, rfl, rfl, h0, r0⟩ := trodAll_cons hA
  obtain ⟨v1, vs1, d1, ds1, p1, q1, rfl, rfl, rfl, h1, r1⟩ := trodAll_cons r0
  obtain ⟨v2, vs2, d2, ds2, p2, q2, rfl, rfl, rfl, h2, r2⟩ := trodAll_cons r1
  obtain ⟨v3, vs3, d3, ds3, p3, q3, rfl, rfl, rfl, h3, r3⟩ := trodAll_cons r2
  obtain ⟨rfl, rfl, rfl⟩ := trodAll_nil r3
  obtain rfl : args = #[v0, v1, v2, v3] := by cases args; simp_all
  obtain ⟨rfl, rfl⟩ := trodVars_none hV
  obtain ⟨a0, len0, cap0, rfl⟩ := okWide_slice Try.underlying22 (hval 0 22 v0 rfl rfl)
  have k0 := h0
  have lt0 : ∀ x ∈ p0, x.block < W.heap.size := by obtain ⟨m, hm⟩ := k0; exact DataW.trod_lt m _ _ _ hm
  obtain ⟨z0, w0⟩ : ∃ zs, IsRow .u8 W a0 len0 cap0 zs := by
    obtain ⟨fuel, hf⟩ := h0
    rcases open_ints Try.underlying22 Try.underlying5 (by kernel_rfl) hf with ⟨hcs, _⟩ | ⟨x, l, c, zs, hcs, _, hl, hm, hz, _, hcell, hwz⟩
    · simp [Value.cells] at hcs
      obtain ⟨rfl, rfl, rfl⟩ := hcs
      exact ⟨[], .inl ⟨rfl, rfl, rfl, rfl⟩⟩
    · simp [Value.cells] at hcs
      obtain ⟨rfl, rfl, rfl⟩ := hcs
      exact ⟨zs, .inr ⟨_, rfl, hl, hm, by simpa using hz, hcell, hwz⟩⟩
  obtain ⟨a1, rfl, rfl, rfl, w1⟩ := open_int Try.underlying23 (hval 1 23 v1 rfl rfl) h1
  obtain ⟨a2, rfl, rfl, rfl, w2⟩ := open_int Try.underlying2 (hval 2 2 v2 rfl rfl) h2
  obtain ⟨a3, rfl, rfl, rfl, w3⟩ := open_int Try.underlying23 (hval 3 23 v3 rfl rfl) h3
  clear hA0 hval0
  refine (walk a0 len0 cap0 z0 a1 a2 a3 W w0 w1 w2 w3).mono fun e W' ⟨he, bel⟩ => ?_
  subst he
  exact ⟨_, rfl, _, _, _, [], _, [], hW', trodAll_mk1 (shut_bool Try.underlying4 _), (trodAll_cons_mk (Below.trod laidOut (by kernel_rfl) (of_decide_eq_true (by kernel_rfl)) k0 bel lt0) (trodAll_cons_mk (shut_int Try.underlying23 w1) (trodAll_cons_mk (shut_int Try.underlying2 w2) (trodAll_cons_mk (shut_int Try.underlying23 w3) trodAll_mk0)))), rfl, bel.frame _, fun h => by cases h⟩

theorem over : Rows.fnExactWriteMemRow.holds Try.pinned (OpenSpec.ofChange Rows.fnExactWriteMemSpec) :=
  OpenClaim.holds_of_wide 4 Try.f4 rfl rfl rfl rfl rfl rfl rfl ⟨rfl, rfl, rfl, rfl, rfl⟩ rfl rfl rfl rfl rfl (by kernel_rfl) Try.func4 (by kernel_rfl)
    (of_decide_eq_true (by kernel_rfl)) (by unfold Func.isWrapper; first | (rw [if_pos (by decide +kernel)]; kernel_rfl) | (rw [if_neg (by decide +kernel)]; exact ⟨rfl, rfl⟩))
    (fun os started H enc _ => lifted os started H enc)

/-- ████ THE STATEMENT ████ -/
theorem proved : Rows.FnExactWriteMemSaid := over
#print axioms proved
end Go.Proofs.Ythekickjjaleaab.fnExactWriteMem

namespace Go.Proofs.Ythekickjjaleaab
theorem fnExactWriteMem_holds : Rows.FnExactWriteMemSaid := fnExactWriteMem.proved
end Go.Proofs.Ythekickjjaleaab
