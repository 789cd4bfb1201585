import Derived.Test.YthekickjjaleaacRows
import Derived.Test.YthekickjjaleaacPack20
import Derived.WalkKit
import Derived.ProofKit
import Derived.OpenShut
import Derived.ShutString
import Derived.ChangeOld
import Derived.Below
/- The proof of Rows.FnExactDecodeScriptSaid: the frame is the kit's shell, the walk is mine. -/
namespace Go.Proofs.Ythekickjjaleaac.fnExactDecodeScript
open Go.ChangeShapes Go.WideShapes Go.ChangeAt Go.RowKit
open Go.ChangeMaps (open_string shut_string)
set_option linter.unusedVariables false

theorem own : ownKnob Try.prog.godebug = none := by kernel_rfl
theorem laidOut : laidOutB Try.prog = true := by kernel_rfl

/-- WHAT THE WALK IS TOLD OF A SLICE OF INTEGERS THAT CAME IN: it is nil; or it leads to a row of 'cap' cells, the numbers 'zs' (the first 'len' are its elements, the rest its spare room), each fitting its kind. -/
def IsRow (k : IntKind) (w : World) (a : Option Addr) (len cap : Nat) (zs : List Int) : Prop :=
  (a = none ∧ len = 0 ∧ cap = 0 ∧ zs = []) ∨
  ∃ x, a = some x ∧ len ≤ cap ∧ cap ≤ maxLen ∧ zs.length = cap ∧ (∀ i, i < zs.length → w.cell? (x.add i) = some (.int k (zs.getD i 0))) ∧ ∀ n ∈ zs, (Lit.int k n).wf = true

/-! ### STEP 1: THE WALK: the Go text returns true, AND WRITES NOTHING THAT WAS THERE: 'Below w.heap.size w w'' (Derived/Below.lean: '.refl', '.alloc', '.drew', '.setCell' at a new block, '.trans'). Open each 'IsRow' by 'rcases' AHEAD of 'go_enter'; part every test ahead of the walk. -/
theorem walk (a0 : Option Addr) (len0 cap0 : Nat) (z0 : List Int) (w : World) (w0 : IsRow .u8 w a0 len0 cap0 z0) :
    Calls Try.prog 3 #[.slice a0 len0 cap0] w fun e w' => e = .returned (.bool true) ∧ Below w.heap.size w w' := by
  obtain ⟨hB, hlc, hcm⟩ := Byt.of_row w0
  have hz := hB.1
  have HBD : Hid (∀ i : Nat, 0 ≤ (z0.take len0)[i]?.getD 0 ∧ (z0.take len0)[i]?.getD 0 ≤ 255) := hB.2.1
  clear w0
  generalize z0.take len0 = zs at *
  by_cases hlen : len0 ≤ 1048576
  · have dl := dec_len HBD.out
    have pl := picks_len zs
    have CS : Hid (∀ (a : Option Addr) (v : World), Byt v a len0 zs → Calls Try.prog 5 #[.slice a len0 len0] v (DecPost v (decodeHM zs) (picksM zs))) := fun a v hb => specDecode_any a len0 len0 zs v hb hlen
    have CI : Hid (∀ (a : Option Addr) (v : World), Byt v a len0 zs → Calls Try.prog 7 #[.slice a len0 len0] v fun e v' => (∃ p pa pc, e = .returned (.agg (scriptA p pa pc (decodeHM zs) (picksM zs))) ∧ ScrO v.heap.size v' p (decodeHM zs) pa pc (picksM zs)) ∧ Below v.heap.size v v') := fun a v hb => (implDecode_any a len0 len0 zs v hb hlen).mono fun e v' d => d.own
    generalize decodeHM zs = hh at *
    generalize picksM zs = ps at *
    have tt : 0 ≤ hTot hh 1 := by
      unfold hTot
      omega
    go_enter Try.func3, Try.ntmps3
    go_wp2_with fail
    refine (toByteS_any a0 len0 cap0 zs w hB hlen).mono ?_
    rintro e v1 ⟨rfl, k1, n1⟩
    go_wp2_with fail
    have B1 : Byt v1 (some ⟨w.heap.size, 0, none⟩) len0 zs := hz ▸ k1.byt HBD.out
    refine (CS.out _ v1 B1).mono ?_
    rintro e v2 ⟨⟨p, pa, pc, rfl, hi, _, op⟩, n2⟩
    have A2 := Below.step n1 n2 (Nat.le_refl _)
    obtain ⟨hr, q1, q2, q3⟩ := hi.row
    have HBM : Hid (∀ i : Nat, 0 ≤ hh.mem[i]?.getD 0 ∧ hh.mem[i]?.getD 0 ≤ 255) := hr.mem.2.1
    have hb : HartB hh := ⟨by omega, by omega, q1, q2, q3⟩
    have RP2 : Hid _ := row_own op
    have HR2 : Hid _ := hr
    clear n1 n2 k1 B1 CS op hr hi
    obtain ⟨v3, hs3, P3, l3, n3⟩ := put_new v2 (scriptA p pa pc hh ps) rfl (script_one _ _ _ _ _)
    have EQ : Hid (∀ (q : PtrM) (qa : Option Addr) (qc base : Nat) (v : World), ScrO base v q hh qa qc ps → Below v3.heap.size v3 v → Calls Try.prog 8 #[.agg (scriptA q qa qc hh ps), .agg (scriptA p pa pc hh ps)] v fun e w' => e = .returned (.bool true) ∧ Below v.heap.size v w') := fun q qa qc base v ho hn =>
      have b3 := Below.step n3 hn (Nat.le_refl _)
      eqScript_row q p hh qa pa qc pc ps v (ho.hart.read HBM.out) (HR2.out.keep b3) hb (row_own ho.pick) (RowC.keep RP2.out b3) (by omega)
    have SS : (scriptA p pa pc hh ps).size = 22 := rfl
    generalize scriptA p pa pc hh ps = S at *
    have HS3 : Hid _ := hs3
    have A3 := Below.step A2 n3 (Nat.le_refl _)
    have HP : Hid (∀ v, Below v3.heap.size v3 v → v.heap[v2.heap.size]? = some (.cells S 34 (0, 0))) := fun v h => heap_keep P3 h l3
    clear hs3 n3 P3 A2 RP2 HR2
    go_wp2_with (first | ((with_reducible refine wpl_store ?_ ?_ HS3.out ?_); (exact rfl); (exact rfl)))
    clear HS3
    refine (toByteS_any a0 len0 cap0 zs v3 (hB.keep A3) hlen).mono ?_
    rintro e v4 ⟨rfl, X4, C4⟩
    have A4 := Below.step A3 C4 (Nat.le_refl _)
    have l4 := X4.lt
    go_wp2_with fail
    have B4 : Byt v4 (some ⟨v3.heap.size, 0, none⟩) len0 zs := hz ▸ X4.byt HBD.out
    refine (CI.out _ v4 B4).mono ?_
    rintro e v5 ⟨⟨q, qa, qc, rfl, o5⟩, n5⟩
    have A5 := Below.step A4 n5 (Nat.le_refl _)
    have C5 := Below.step C4 n5 (Nat.le_refl _)
    have X5 := X4.keep n5 l4
    have l5 : v4.heap.size ≤ v5.heap.size := n5.size
    have tl : ∀ g, srows q hh qa qc ps g → v4.heap.size ≤ g := o5.low
    have TL : Hid _ := tl
    clear X4 C4 A4 n5 B4 tl
    obtain ⟨v6, hs6, P6, l6, n6⟩ := put_new v5 (scriptA q qa qc hh ps) rfl (script_one _ _ _ _ _)
    have O6 : Hid _ := o5.keep n6
    have EG : Hid (∀ v, ScrO v4.heap.size v q hh qa qc ps → Below v3.heap.size v3 v → Calls Try.prog 8 #[.agg (scriptA q qa qc hh ps), .agg S] v fun e w' => e = .returned (.bool true) ∧ Below v.heap.size v w') := fun v ho hn => EQ.out q qa qc _ v ho hn
    have EM : Hid (∀ v, ScrO v4.heap.size v q hh qa qc ps → Calls Try.prog 11 #[.agg (scriptA q qa qc hh ps), .int .i64 1] v fun e w' => e = .returned (.int .i64 (hTot hh 1 + ps.length)) ∧ (HMark v4.heap.size w' q hh 1 ∧ w'.ownsRow v4.heap.size 2 1 (.slice qa ps.length qc) ps.length (mkF (mkInt64S (hTot hh 1)) ps.length)) ∧ Mid (srows q hh qa qc ps) v w') := fun v ho => markScript_own v4.heap.size q hh qa qc ps _ _ _ _ _ _ 1 v ho.hart ho.pick hb (by omega) (by omega) (by omega)
    have EH : Hid (∀ v, HMark v4.heap.size v q hh 1 → v.ownsRow v4.heap.size 2 1 (.slice qa ps.length qc) ps.length (mkF (mkInt64S (hTot hh 1)) ps.length) → Calls Try.prog 12 #[.agg (scriptA q qa qc hh ps), .int .i64 1] v fun e w' => e = .returned (.int .i64 (hTot hh 1 + ps.length)) ∧ Below v.heap.size v w') := fun v h1 h2 => heldScript_own v4.heap.size q hh qa qc ps 1 v h1 h2 hb (by omega) (by omega) (by omega)
    have SG : (scriptA q qa qc hh ps).size = 22 := rfl
    generalize scriptA q qa qc hh ps = G at *
    have HS6 : Hid _ := hs6
    have Q6 : Hid _ := P6
    have A6 := Below.step A5 n6 (Nat.le_refl _)
    have C6 := Below.step C5 n6 (Nat.le_refl _)
    have X6 := X5.keep n6 (by omega)
    have L6a : Hid _ := box_script SG P6
    have L6b : Hid _ := box_script SS (HP.out v6 C6)
    clear hs6 P6 n6 A5 C5 X5 o5
    go_wp2_with (first | ((with_reducible refine wpl_store ?_ ?_ HS6.out ?_); (exact rfl); (exact rfl)) | ((with_reducible refine wpl_load ?_ L6a.out ?_); (exact rfl)) | ((with_reducible refine wpl_load ?_ L6b.out ?_); (exact rfl)))
    clear L6a L6b HS6
    refine (EG.out v6 O6.out C6).mono ?_
    rintro e v7 ⟨rfl, n7⟩
    have A7 := Below.step A6 n7 (Nat.le_refl _)
    have C7 := Below.step C6 n7 (Nat.le_refl _)
    have X7 := X6.keep n7 (by omega)
    have O7 : Hid _ := O6.out.keep n7
    have Q7 : Hid _ := heap_keep Q6.out n7 l6
    have l7 : v6.heap.size ≤ v7.heap.size := n7.size
    clear A6 C6 X6 O6 Q6 n7
    go_wp2_with fail
    refine (toByteS_any a0 len0 cap0 zs v7 (hB.keep A7) hlen).mono ?_
    rintro e v8 ⟨rfl, k8, n8⟩
    have A8 := Below.step A7 n8 (Nat.le_refl _)
    have C8 := Below.step C7 n8 (Nat.le_refl _)
    have X8 := X7.keep n8 (by omega)
    have O8 : Hid _ := O7.out.keep n8
    have Q8 : Hid _ := heap_keep Q7.out n8 (by omega)
    have l8 : v7.heap.size ≤ v8.heap.size := n8.size
    clear A7 C7 X7 O7 Q7 n8
    go_wp2_with fail
    have Y8 : Byt v8 (some ⟨v7.heap.size, 0, none⟩) len0 zs := hz ▸ k8.byt HBD.out
    have X8' : Byt v8 (some ⟨v3.heap.size, 0, none⟩) len0 zs := hz ▸ X8.byt HBD.out
    refine (eqByteS_same _ _ len0 len0 len0 zs v8 X8' Y8 hlen).mono ?_
    rintro e v9 ⟨rfl, n9⟩
    have A9 := Below.step A8 n9 (Nat.le_refl _)
    have C9 := Below.step C8 n9 (Nat.le_refl _)
    have X9 := X8.keep n9 (by omega)
    have O9 : Hid _ := O8.out.keep n9
    have Q9 : Hid _ := heap_keep Q8.out n9 (by omega)
    have l9 : v8.heap.size ≤ v9.heap.size := n9.size
    clear A8 C8 X8 O8 Q8 n9 X8' Y8 k8
    go_wp2_with fail
    refine (markByteS_any v3.heap.size len0 len0 zs 1 v9 X9 hz hlen (by omega) (by omega)).mono ?_
    rintro e v10 ⟨rfl, k10, m10⟩
    have A10 := Below.gb A9 m10 A3.size X9.lt
    have C10 := Below.gb C9 m10 (Nat.le_refl _) X9.lt
    have O10 : Hid _ := O9.out.gb m10 l4
    have Q10 : Hid _ := heap_gb Q9.out m10 (by omega)
    have l10 : v9.heap.size ≤ v10.heap.size := m10.size
    clear A9 C9 X9 O9 Q9 m10 k10
    have hk10 : decide ((1 : Int) + (len0 : Int) < 0) = false := by simp; omega
    have L10a : Hid _ := box_script SG Q10.out
    have L10b : Hid _ := box_script SS (HP.out v10 C10)
    go_wp2_with (first | ((with_reducible refine wpl_loadg ?_ ?_ L10a.out ?_); (exact rfl); (exact rfl)) | ((with_reducible refine wpl_loadg ?_ ?_ L10b.out ?_); (exact rfl); (exact rfl)))
    clear L10a L10b
    refine (EG.out v10 O10.out C10).mono ?_
    rintro e v11 ⟨rfl, n11⟩
    have A11 := Below.step A10 n11 (Nat.le_refl _)
    have C11 := Below.step C10 n11 (Nat.le_refl _)
    have O11 : Hid _ := O10.out.keep n11
    have Q11 : Hid _ := heap_keep Q10.out n11 (by omega)
    have l11 : v10.heap.size ≤ v11.heap.size := n11.size
    clear A10 C10 O10 Q10 n11 hk10
    have L11 : Hid _ := box_script SG Q11.out
    go_wp2_with (first | ((with_reducible refine wpl_load ?_ L11.out ?_); (exact rfl)))
    clear L11
    refine (EM.out v11 O11.out).mono ?_
    rintro e v12 ⟨rfl, ⟨hm, op⟩, md⟩
    have A12 := md.below A11 A11.size (fun g hg => Nat.le_trans (Nat.le_trans A3.size (Nat.le_of_lt l4)) (TL.out g hg))
    have C12 := md.below C11 C11.size (fun g hg => Nat.le_trans (Nat.le_of_lt l4) (TL.out g hg))
    have Q12 : Hid _ := md.heap Q11.out (O11.out.box Q11.out)
    have HM : Hid _ := hm
    have OP : Hid _ := op
    clear A11 C11 O11 Q11 md hm op
    have L12 : Hid _ := box_script SG Q12.out
    go_wp2_with (first | ((with_reducible refine wpl_load ?_ L12.out ?_); (exact rfl)))
    clear L12
    refine (EH.out v12 HM.out OP.out).mono ?_
    rintro e v13 ⟨rfl, n13⟩
    have A13 := Below.step A12 n13 (Nat.le_refl _)
    have C13 := Below.step C12 n13 (Nat.le_refl _)
    clear A12 C12 Q12 n13 HM OP
    have hk13 : decide (hTot hh 1 + (ps.length : Int) < 0) = false := by simp; omega
    go_wp2_with fail
    refine (toByteS_any a0 len0 cap0 zs v13 (hB.keep A13) hlen).mono ?_
    rintro e v14 ⟨rfl, k14, n14⟩
    have A14 := Below.step A13 n14 (Nat.le_refl _)
    have C14 := Below.step C13 n14 (Nat.le_refl _)
    clear A13 C13 n14 hk13
    go_wp2_with fail
    have B14 : Byt v14 (some ⟨v13.heap.size, 0, none⟩) len0 zs := hz ▸ k14.byt HBD.out
    refine (CI.out _ v14 B14).mono ?_
    rintro e v15 ⟨⟨r, ra, rc, rfl, o15⟩, n15⟩
    have A15 := Below.step A14 n15 (Nat.le_refl _)
    have C15 := Below.step C14 n15 (Nat.le_refl _)
    clear A14 C14 n15 B14 k14
    obtain ⟨v16, hs16, P16, l16, n16⟩ := put_new v15 (scriptA r ra rc hh ps) rfl (script_one _ _ _ _ _)
    have O16 : Hid _ := o15.keep n16
    have ER : Hid (∀ v, ScrO v14.heap.size v r hh ra rc ps → Below v3.heap.size v3 v → Calls Try.prog 8 #[.agg (scriptA r ra rc hh ps), .agg S] v fun e w' => e = .returned (.bool true) ∧ Below v.heap.size v w') := fun v ho hn => EQ.out r ra rc _ v ho hn
    have SR : (scriptA r ra rc hh ps).size = 22 := rfl
    generalize scriptA r ra rc hh ps = R at *
    have HS16 : Hid _ := hs16
    have A16 := Below.step A15 n16 (Nat.le_refl _)
    have C16 := Below.step C15 n16 (Nat.le_refl _)
    have L16a : Hid _ := box_script SR P16
    have L16b : Hid _ := box_script SS (HP.out v16 C16)
    clear hs16 P16 n16 A15 C15 o15
    go_wp2_with (first | ((with_reducible refine wpl_store ?_ ?_ HS16.out ?_); (exact rfl); (exact rfl)) | ((with_reducible refine wpl_load ?_ L16a.out ?_); (exact rfl)) | ((with_reducible refine wpl_load ?_ L16b.out ?_); (exact rfl)))
    clear L16a L16b HS16
    refine (ER.out v16 O16.out C16).mono ?_
    rintro e v17 ⟨rfl, n17⟩
    have A17 := Below.step A16 n17 (Nat.le_refl _)
    clear A16 C16 O16 n17
    go_wp2_with fail
    go_ret
    exact ⟨rfl, A17⟩
  · go_enter Try.func3, Try.ntmps3
    go_wp2_with fail
    go_ret
    exact ⟨rfl, Below.refl _ _⟩

/-! ### THE ROW's STEP: WRITTEN OUT: LEAVE IT -/
set_option maxRecDepth 100000 in
theorem lifted (os : Os) (started : os.Started) (H : Type) (enc : TypeId × Value → H) :
    ReturnsInHanded {} Try.checked os 3 .any (Rows.fnExactDecodeScriptSpec.pre6 enc Try.prog Try.f3 Rows.fnExactDecodeScriptRow.domain false) (Rows.fnExactDecodeScriptSpec.post enc Try.prog Try.f3 false true false false) := by
  refine returnsInHanded_of_change (C := Try.checked) own started (by kernel_rfl) Try.func3
    (ChangeSpec.witness6 (enc := enc) (C := Try.checked) false ⟨#[], #[.slice none 0 0], []⟩ 8 (by kernel_rfl) (by kernel_rfl) (by kernel_rfl) (by kernel_rfl)) ?_
  intro W base args ds gs before hval0 hW hcnd _
  have hval : ∀ (j : Nat) t v, Try.f3.params[j]? = some t → args[j]? = some v → Value.okWide Try.prog W .any base t v := hval0
  have hW' := hW
  obtain ⟨p, q, hA0, hV, rfl, hfz, hnd⟩ := hW
  have hA : DataW.TrodAll enc Try.prog W 0 (fun _ => true) true Try.f3.params.toList args.toList ds p := hA0
  rw [Try.params3] at hA hval
  obtain ⟨v0, vs0, d0, ds0, p0, q0, hargs, rfl, rfl, h0, r0⟩ := trodAll_cons hA
  obtain ⟨rfl, rfl, rfl⟩ := trodAll_nil r0
  obtain rfl : args = #[v0] := by cases args; simp_all
  obtain ⟨rfl, rfl⟩ := trodVars_none hV
  obtain ⟨a0, len0, cap0, rfl⟩ := okWide_slice Try.underlying22 (hval 0 22 v0 rfl rfl)
  have k0 := h0
  have lt0 : ∀ x ∈ p0, x.block < W.heap.size := by obtain ⟨m, hm⟩ := k0; exact DataW.trod_lt m _ _ _ hm
  obtain ⟨z0, w0⟩ : ∃ zs, IsRow .u8 W a0 len0 cap0 zs := by
    obtain ⟨fuel, hf⟩ := h0
    rcases open_ints Try.underlying22 Try.underlying5 (by kernel_rfl) hf with ⟨hcs, _⟩ | ⟨x, l, c, zs, hcs, _, hl, hm, hz, _, hcell, hwz⟩
    · simp [Value.cells] at hcs
      obtain ⟨rfl, rfl, rfl⟩ := hcs
      exact ⟨[], .inl ⟨rfl, rfl, rfl, rfl⟩⟩
    · simp [Value.cells] at hcs
      obtain ⟨rfl, rfl, rfl⟩ := hcs
      exact ⟨zs, .inr ⟨_, rfl, hl, hm, by simpa using hz, hcell, hwz⟩⟩
  clear hA0 hval0
  refine (walk a0 len0 cap0 z0 W w0).mono fun e W' ⟨he, bel⟩ => ?_
  subst he
  exact ⟨_, rfl, _, _, _, [], _, [], hW', trodAll_mk1 (shut_bool Try.underlying4 _), (trodAll_cons_mk (Below.trod laidOut (by kernel_rfl) (of_decide_eq_true (by kernel_rfl)) k0 bel lt0) trodAll_mk0), rfl, bel.frame _, fun h => by cases h⟩

theorem over : Rows.fnExactDecodeScriptRow.holds Try.pinned (OpenSpec.ofChange Rows.fnExactDecodeScriptSpec) :=
  OpenClaim.holds_of_wide 3 Try.f3 rfl rfl rfl rfl rfl rfl rfl ⟨rfl, rfl, rfl, rfl, rfl⟩ rfl rfl rfl rfl rfl (by kernel_rfl) Try.func3 (by kernel_rfl)
    (of_decide_eq_true (by kernel_rfl)) (by unfold Func.isWrapper; first | (rw [if_pos (by decide +kernel)]; kernel_rfl) | (rw [if_neg (by decide +kernel)]; exact ⟨rfl, rfl⟩))
    (fun os started H enc _ => lifted os started H enc)

/-- ████ THE STATEMENT ████ -/
theorem proved : Rows.FnExactDecodeScriptSaid := over
#print axioms proved
end Go.Proofs.Ythekickjjaleaac.fnExactDecodeScript

namespace Go.Proofs.Ythekickjjaleaac
theorem fnExactDecodeScript_holds : Rows.FnExactDecodeScriptSaid := fnExactDecodeScript.proved
end Go.Proofs.Ythekickjjaleaac
