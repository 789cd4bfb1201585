/- The proof of Rows.FnExactReadMemSaid: the frame is the kit's shell, the walk is mine. -/
import Derived.Test.YthekickjjaleaabRows
import Derived.Test.YthekickjjaleaabImpl1w
import Derived.WalkKit
import Derived.ProofKit
import Derived.OpenShut
import Derived.ShutString
import Derived.ChangeOld
import Derived.Below
namespace Go.Proofs.Ythekickjjaleaab.fnExactReadMem
open Go.ChangeShapes Go.WideShapes Go.ChangeAt Go.RowKit
open Go.ChangeMaps (open_string shut_string)
set_option linter.unusedVariables false

theorem own : ownKnob Try.prog.godebug = none := by kernel_rfl
theorem laidOut : laidOutB Try.prog = true := by kernel_rfl

/-- WHAT THE WALK IS TOLD OF A SLICE OF INTEGERS THAT CAME IN: it is nil; or it leads to a row of 'cap' cells, the numbers 'zs' (the first 'len' are its elements, the rest its spare room), each fitting its kind. -/
def IsRow (k : IntKind) (w : World) (a : Option Addr) (len cap : Nat) (zs : List Int) : Prop :=
  (a = none ∧ len = 0 ∧ cap = 0 ∧ zs = []) ∨
  ∃ x, a = some x ∧ len ≤ cap ∧ cap ≤ maxLen ∧ zs.length = cap ∧ (∀ i, i < zs.length → w.cell? (x.add i) = some (.int k (zs.getD i 0))) ∧ ∀ n ∈ zs, (Lit.int k n).wf = true

/-! ### STEP 1: THE WALK: the Go text returns true, AND WRITES NOTHING THAT WAS THERE: 'Below w.heap.size w w'' (Derived/Below.lean: '.refl', '.alloc', '.drew', '.setCell' at a new block, '.trans'). Open each 'IsRow' by 'rcases' AHEAD of 'go_enter'; part every test ahead of the walk. -/
theorem walk (a0 : Option Addr) (len0 cap0 : Nat) (z0 : List Int) (a1 : Int) (a2 : Int) (w : World) (w0 : IsRow .u8 w a0 len0 cap0 z0) (w1 : (Lit.int .u64 a1).wf = true) (w2 : (Lit.int .i64 a2).wf = true) :
    Calls Try.prog 3 #[.slice a0 len0 cap0, .int .u64 a1, .int .i64 a2] w fun e w' => e = .returned (.bool true) ∧ Below w.heap.size w w' := by
  obtain ⟨hB, hlc, hcm⟩ := Byt.of_row w0
  have b1 := bounds_u64 w1
  have b2 := bounds_i64 w2
  have hz := hB.1
  have hbd := hB.2.1
  clear w0 w1 w2
  generalize z0.take len0 = zs at *
  by_cases hlen : len0 ≤ 1048576
  · go_enter Try.func3, Try.ntmps3
    go_wp2_with fail
    refine (toByteS_any a0 len0 cap0 zs w hB hlen).mono ?_
    rintro e v1 ⟨rfl, k1, n1⟩
    go_wp2_with fail
    have B1 : Byt v1 (some ⟨w.heap.size, 0, none⟩) len0 zs := hz ▸ k1.byt hbd
    refine (specRead_any (some ⟨w.heap.size, 0, none⟩) len0 len0 zs a1 a2 v1 B1 hlen (Nat.le_refl _) (by omega) b1.1 b1.2 b2.2).mono ?_
    rintro e v2 ⟨rfl, n2⟩
    have n12 := Below.step n1 n2 (Nat.le_refl _)
    clear B1 k1 n1 n2
    go_wp2_with fail
    have a3 := alloc_facts v2 #[Value.bool (goodB len0 a1 a2), Value.int IntKind.u64 (rdV zs a1 a2)] 25
    generalize v2.alloc (Obj.cells #[Value.bool (goodB len0 a1 a2), Value.int IntKind.u64 (rdV zs a1 a2)] 25) = v3 at a3 ⊢
    obtain ⟨s3, c3, n3⟩ := a3
    have c30 : v3.cell? ⟨v2.heap.size, 0, none⟩ = some (Value.bool (goodB len0 a1 a2)) := c3 0
    have c31 : v3.cell? ⟨v2.heap.size, 1, none⟩ = some (Value.int IntKind.u64 (rdV zs a1 a2)) := c3 1
    have n13 := Below.step n12 n3 (Nat.le_refl _)
    clear c3 n12 n3
    refine (toByteS_any a0 len0 cap0 zs v3 (hB.keep n13) hlen).mono ?_
    rintro e v4 ⟨rfl, k4, n4⟩
    go_wp2_with fail
    have B4 : Byt v4 (some ⟨v3.heap.size, 0, none⟩) len0 zs := hz ▸ k4.byt hbd
    refine (implRead_any (some ⟨v3.heap.size, 0, none⟩) len0 len0 zs a1 a2 v4 B4 hlen (Nat.le_refl _) b1.1 b1.2 b2.2).mono ?_
    rintro e v5 ⟨rfl, n5⟩
    have n35 := Below.step n4 n5 (Nat.le_refl _)
    have B5 := B4.keep n5
    have c50 := Below.cell2 n35 c30 s3
    have c51 := Below.cell2 n35 c31 s3
    have s5 : v2.heap.size < v5.heap.size := Nat.lt_of_lt_of_le s3 n35.size
    have n15 := Below.step n13 n35 (Nat.le_refl _)
    clear k4 B4 n4 n5 c30 c31 n13 n35 s3
    go_wp2_with fail
    have a6 := alloc_facts v5 #[Value.bool (goodB len0 a1 a2), Value.int IntKind.u64 (rdV zs a1 a2)] 25
    generalize v5.alloc (Obj.cells #[Value.bool (goodB len0 a1 a2), Value.int IntKind.u64 (rdV zs a1 a2)] 25) = v6 at a6 ⊢
    obtain ⟨s6, c6, n6⟩ := a6
    have n16 := Below.step n15 n6 (Nat.le_refl _)
    have B6 := B5.keep n6
    clear c50 c51 s5 s6 c6 n15 n6 B5
    refine (eqReadRes_same _ _ v6).mono ?_
    rintro e v7 ⟨rfl, n7⟩
    have n17 := Below.step n16 n7 (Nat.le_refl _)
    have B7 := B6.keep n7
    clear n16 n7 B6
    go_wp2_with fail
    refine (toByteS_any a0 len0 cap0 zs v7 (hB.keep n17) hlen).mono ?_
    rintro e v8 ⟨rfl, k8, n8⟩
    go_wp2_with fail
    have B8 : Byt v8 (some ⟨v7.heap.size, 0, none⟩) len0 zs := hz ▸ k8.byt hbd
    refine (eqByteS_same _ _ len0 len0 len0 zs v8 (B7.keep n8) B8 hlen).mono ?_
    rintro e v9 ⟨rfl, n9⟩
    have n19 := Below.step (Below.step n17 n8 (Nat.le_refl _)) n9 (Nat.le_refl _)
    clear k8 B8 B7 n8 n9 n17
    go_wp2_with fail
    go_ret
    exact ⟨rfl, n19⟩
  · go_enter Try.func3, Try.ntmps3
    go_wp2_with fail
    go_ret
    exact ⟨rfl, Below.refl _ _⟩

/-! ### THE ROW's STEP: WRITTEN OUT: LEAVE IT -/
set_option maxRecDepth 100000 in
theorem lifted (os : Os) (started : os.Started) (H : Type) (enc : TypeId × Value → H) :
    ReturnsInHanded {} Try.checked os 3 .any (Rows.fnExactReadMemSpec.pre6 enc Try.prog Try.f3 Rows.fnExactReadMemRow.domain false) (Rows.fnExactReadMemSpec.post enc Try.prog Try.f3 false true false false) := by
  refine returnsInHanded_of_change (C := Try.checked) own started (by kernel_rfl) Try.func3
    (ChangeSpec.witness6 (enc := enc) (C := Try.checked) false ⟨#[], #[.slice none 0 0, .int .u64 0, .int .i64 0], []⟩ 8 (by kernel_rfl) (by kernel_rfl) (by kernel_rfl) (by kernel_rfl)) ?_
  intro W base args ds gs before hval0 hW hcnd _
  have hval : ∀ (j : Nat) t v, Try.f3.params[j]? = some t → args[j]? = some v → Value.okWide Try.prog W .any base t v := hval0
  have hW' := hW
  obtain ⟨p, q, hA0, hV, rfl, hfz, hnd⟩ := hW
  have hA : DataW.TrodAll enc Try.prog W 0 (fun _ => true) true Try.f3.params.toList args.toList ds p := hA0
  rw [Try.params3] at hA hval
  obtain ⟨v0, vs0, d0, ds0, p0, q0, hargs, rfl, rfl, h0, r0⟩ := trodAll_cons hA
  obtain ⟨v1, vs1, d1, ds1, p1, q1, rfl, rfl, rfl, h1, r1⟩ := trodAll_cons r0
  obtain ⟨v2, vs2, d2, ds2, p2, q2, rfl, rfl, rfl, h2, r2⟩ := trodAll_cons r1
  obtain ⟨rfl, rfl, rfl⟩ := trodAll_nil r2
  obtain rfl : args = #[v0, v1, v2] := by cases args; simp_all
  obtain ⟨rfl, rfl⟩ := trodVars_none hV
  obtain ⟨a0, len0, cap0, rfl⟩ := okWide_slice Try.underlying22 (hval 0 22 v0 rfl rfl)
  have k0 := h0
  have lt0 : ∀ x ∈ p0, x.block < W.heap.size := by obtain ⟨m, hm⟩ := k0; exact DataW.trod_lt m _ _ _ hm
  obtain ⟨z0, w0⟩ : ∃ zs, IsRow .u8 W a0 len0 cap0 zs := by
    obtain ⟨fuel, hf⟩ := h0
    rcases open_ints Try.underlying22 Try.underlying5 (by kernel_rfl) hf with ⟨hcs, _⟩ | ⟨x, l, c, zs, hcs, _, hl, hm, hz, _, hcell, hwz⟩
    · simp [Value.cells] at hcs
      obtain ⟨rfl, rfl, rfl⟩ := hcs
      exact ⟨[], .inl ⟨rfl, rfl, rfl, rfl⟩⟩
    · simp [Value.cells] at hcs
      obtain ⟨rfl, rfl, rfl⟩ := hcs
      exact ⟨zs, .inr ⟨_, rfl, hl, hm, by simpa using hz, hcell, hwz⟩⟩
  obtain ⟨a1, rfl, rfl, rfl, w1⟩ := open_int Try.underlying23 (hval 1 23 v1 rfl rfl) h1
  obtain ⟨a2, rfl, rfl, rfl, w2⟩ := open_int Try.underlying2 (hval 2 2 v2 rfl rfl) h2
  clear hA0 hval0
  refine (walk a0 len0 cap0 z0 a1 a2 W w0 w1 w2).mono fun e W' ⟨he, bel⟩ => ?_
  subst he
  exact ⟨_, rfl, _, _, _, [], _, [], hW', trodAll_mk1 (shut_bool Try.underlying4 _), (trodAll_cons_mk (Below.trod laidOut (by kernel_rfl) (of_decide_eq_true (by kernel_rfl)) k0 bel lt0) (trodAll_cons_mk (shut_int Try.underlying23 w1) (trodAll_cons_mk (shut_int Try.underlying2 w2) trodAll_mk0))), rfl, bel.frame _, fun h => by cases h⟩

theorem over : Rows.fnExactReadMemRow.holds Try.pinned (OpenSpec.ofChange Rows.fnExactReadMemSpec) :=
  OpenClaim.holds_of_wide 3 Try.f3 rfl rfl rfl rfl rfl rfl rfl ⟨rfl, rfl, rfl, rfl, rfl⟩ rfl rfl rfl rfl rfl (by kernel_rfl) Try.func3 (by kernel_rfl)
    (of_decide_eq_true (by kernel_rfl)) (by unfold Func.isWrapper; first | (rw [if_pos (by decide +kernel)]; kernel_rfl) | (rw [if_neg (by decide +kernel)]; exact ⟨rfl, rfl⟩))
    (fun os started H enc _ => lifted os started H enc)

/-- ████ THE STATEMENT ████ -/
theorem proved : Rows.FnExactReadMemSaid := over
#print axioms proved
end Go.Proofs.Ythekickjjaleaab.fnExactReadMem

namespace Go.Proofs.Ythekickjjaleaab
theorem fnExactReadMem_holds : Rows.FnExactReadMemSaid := fnExactReadMem.proved
end Go.Proofs.Ythekickjjaleaab
