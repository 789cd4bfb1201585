import Derived.Test.YtaoaifmkhbgaiaaGreatRows
import Derived.Test.YtaoaifmkhbgaiaaGreatPk40
import Derived.Test.YtaoaifmkhbgaiaaGreatPk48
import Derived.Test.YtaoaifmkhbgaiaaGreatPk46
import Derived.WalkKit
import Derived.ProofKit
import Derived.OpenShut
import Derived.ShutString
import Derived.ChangeOld
import Derived.Below
/- The proof of Rows.FnColdSaid: the frame is the kit's shell, the walk is mine. -/
namespace Go.Proofs.YtaoaifmkhbgaiaaGreat.fnCold
open Go.ChangeShapes Go.WideShapes Go.ChangeAt Go.RowKit
open Go.ChangeMaps (open_string shut_string)
set_option linter.unusedVariables false

theorem own : ownKnob Tryz.prog.godebug = none := by kernel_rfl
theorem laidOut : laidOutB Tryz.prog = true := by kernel_rfl

/-- WHAT THE WALK IS TOLD OF A SLICE OF INTEGERS THAT CAME IN: it is nil; or it leads to a row of 'cap' cells, the numbers 'zs' (the first 'len' are its elements, the rest its spare room), each fitting its kind. -/
def IsRow (k : IntKind) (w : World) (a : Option Addr) (len cap : Nat) (zs : List Int) : Prop :=
  (a = none ∧ len = 0 ∧ cap = 0 ∧ zs = []) ∨
  ∃ x, a = some x ∧ len ≤ cap ∧ cap ≤ maxLen ∧ zs.length = cap ∧ (∀ i, i < zs.length → w.cell? (x.add i) = some (.int k (zs.getD i 0))) ∧ ∀ n ∈ zs, (Lit.int k n).wf = true

/-! ### STEP 1: THE WALK: the Go text returns true, AND WRITES NOTHING THAT WAS THERE: 'Below w.heap.size w w'' (Derived/Below.lean: '.refl', '.alloc', '.drew', '.setCell' at a new block, '.trans'). Open each 'IsRow' by 'rcases' AHEAD of 'go_enter'; part every test ahead of the walk. -/
theorem walk (a0 : Option Addr) (len0 cap0 : Nat) (z0 : List Int) (w : World) (w0 : IsRow .u8 w a0 len0 cap0 z0) :
    Calls Tryz.prog 4 #[.slice a0 len0 cap0] w fun e w' => e = .returned (.bool true) ∧ Below w.heap.size w w' := by
  obtain ⟨hB, hlc, hcm⟩ := Byt.of_row w0
  clear w0
  generalize z0.take len0 = zs at *
  have HBD : Hid (∀ i : Nat, 0 ≤ zs[i]?.getD 0 ∧ zs[i]?.getD 0 ≤ 255) := hB.2.1
  by_cases hlen : len0 ≤ 1048576
  · have CD : Hid (∀ u, Below w.heap.size w u → Calls Tryz.prog 15 #[.slice a0 len0 cap0] u (mN u (fc zs) (iF zs))) := fun u hu => lB a0 len0 cap0 zs u (hB.keep hu) hlen
    go_enter Tryz.func4, Tryz.ntmps4
    go_wp2_with fail
    refine (p7 a0 len0 cap0 zs w hB hlen).mono ?_
    rintro e v1 ⟨g, n, c, ms, mode, sum, mxr, satp, q, km, kind, va, pick, rfl, bM, hn, hnc, hk, hs, hv, n1⟩
    have F := eU v1 #[.int .i64 0, .bool false, .bool false, .int .u64 0] zkA 25 30
    obtain ⟨v2, hs2, P2, g2, l2⟩ := cC F.1 #[.int .i64 mode, .bool sum, .bool mxr, .int .u64 satp] fh rfl (jo _ _ _ _)
    obtain ⟨v3, hs3, P3, g3, l3⟩ := cC (av F.2.1 g2 (show v1.heap.size + 1 ≠ v1.heap.size by omega)) (kA q km) cK rfl (ic _ _)
    have HS2 : Hid _ := hs2
    have HS3 : Hid _ := hs3
    have q2 : v2.heap.size = v1.heap.size + 2 := by rw [l2]; exact F.2.2.1
    have nv : Below v1.heap.size v1 v3 := Below.gb (Below.gb F.2.2.2 g2 (Nat.le_refl _) (by have := F.2.2.1; omega)) g3 (by omega) (by omega)
    have H4 : Hid _ := av P2 g3 (show v1.heap.size ≠ v1.heap.size + 1 by omega)
    have H5 : Hid _ := P3
    have BM : Hid (Byt v3 (some ⟨g, 0, none⟩) n ms) := bM.keep nv
    have HK : Hid (KAt v3 (.agg (kA q km)) km) := hk.keep nv
    have nA : Below w.heap.size w v3 := Below.step n1 nv (Nat.le_refl _)
    have s1 := n1.size
    clear hs2 hs3 P2 P3 g2 g3 F bM hk n1 nv l2 l3 q2 hB
    unfold dx
    have AS : (kA q km).size = 9 := rfl
    have CT : Hid (∀ u, Below v3.heap.size v3 u → Calls Tryz.prog 8 #[.slice (some ⟨g, 0, none⟩) n c, .agg #[.int .i64 mode, .bool sum, .bool mxr, .int .u64 satp], .agg (kA q km), .int .i64 kind, .int .u64 va, .int .i64 pick] u fun e w' => (∃ x, e = .returned x ∧ TransOwn u.heap.size w' x (ak ms mode sum mxr satp km kind va pick)) ∧ Below u.heap.size u w') := fun u hu => gc _ n c ms mode sum mxr satp _ km kind va pick u (HK.out.keep hu) (BM.out.keep hu) (by omega) hnc.1 hnc.2 hv.1 hv.2 hs.1 hs.2
    have KI : Hid (kOk (fc zs).k) := (tW HBD.out).ks
    have CP : Hid (∀ kind va pick : Int, (0 ≤ kind ∧ kind ≤ 2) → (0 ≤ mode ∧ mode ≤ 2) → (0 ≤ pick ∧ pick ≤ 255) → (ak ms mode sum mxr satp (fc zs).k kind va pick).1 = eu ms mode sum mxr satp kind va) := fun kind va pick h1 h2 h3 => xn ms zs mode sum mxr satp kind va pick HBD.out h1 h2 h3
    generalize fc zs = h0 at *
    generalize iF zs = ps at *
    obtain ⟨AK, hAK⟩ : ∃ A, kA q km = A := ⟨_, rfl⟩
    rw [hAK] at HS3 H5 CT AS ⊢
    clear hAK HK
    have J4 : Hid _ := aB (P := Tryz.prog) (T := 25) H4.out Tryz.underlying25 rfl fh
    have J5 : Hid _ := aB (P := Tryz.prog) (T := 30) H5.out Tryz.underlying30 rfl (by rw [AS]; exact cK)
    go_upto_region 4 with (first | ((with_reducible refine au ?_ ?_ HS2.out ?_); (exact rfl); (exact rfl)) | ((with_reducible refine au ?_ ?_ HS3.out ?_); (exact rfl); (exact rfl)))
    clear HS2 HS3
    generalize hb4 : v1.heap.size = b4 at *
    go_wp2_with (first | ((with_reducible refine az ?_ J4.out ?_); (exact rfl)) | ((with_reducible refine az ?_ J5.out ?_); (exact rfl)))
    refine (CT.out v3 (Below.refl _ _)).mono ?_
    rintro e v4 ⟨⟨x, rfl, tO⟩, n4⟩
    obtain ⟨a1, c1, a2, c2, a3, c3, rfl, -⟩ := tO.open q
    have hf := xY (pK q a1 c1 a2 c2 a3 c3) (ak ms mode sum mxr satp km kind va pick)
    have HR : Hid ((ak ms mode sum mxr satp km kind va pick).1.1 ≠ 63 → aV km = true ∧ (0 ≤ kind ∧ kind ≤ 2) ∧ (0 ≤ mode ∧ mode ≤ 2) ∧ (0 ≤ pick ∧ pick ≤ 255)) := uw
    generalize cI (pK q a1 c1 a2 c2 a3 c3) (ak ms mode sum mxr satp km kind va pick) = TA at *
    generalize (ak ms mode sum mxr satp km kind va pick).1.1 = c0 at *
    have n34 := n4
    replace nA := Below.step nA n4 (Nat.le_refl _)
    clear tO J4 J5 CT
    by_cases hc : c0 = 63
    · have hc' : (c0 == 63) = true := by simpa using hc
      clear hc
      go_wp2_with fail
      go_ret
      exact ⟨rfl, nA⟩
    · have hc' : (c0 == 63) = false := by simpa using hc
      obtain ⟨-, hk1, hm1, hp1⟩ := HR.out hc
      have hcold := CP.out kind va pick hk1 hm1 hp1
      have HP : Hid ((ak ms mode sum mxr satp h0.k kind va pick).1 = eu ms mode sum mxr satp kind va) := hcold
      clear hc HR CP hcold
      go_wp2_with fail
      refine (CD.out v4 nA).mono ?_
      rintro e v5 ⟨⟨p, pa, pc, rfl, hi, -, -⟩, n5⟩
      have f1 := Ar p pa pc h0 ps
      have f2 := AV p h0
      have hkd := hi.ks
      obtain ⟨v6, hs6, P6, l6, n6⟩ := dI v5 zkA (kA p h0.k) 30 cK rfl (ic _ _)
      have HS6 : Hid _ := hs6
      have H9 : Hid _ := P6
      have BK : Hid (KAt v6 (.agg (kA p h0.k)) h0.k) := hkd.keep n6
      have n36 := Below.step (Below.step n34 n5 (Nat.le_refl _)) n6 (Nat.le_refl _)
      replace nA := Below.step (Below.step nA n5 (Nat.le_refl _)) n6 (Nat.le_refl _)
      replace H4 := ae H4 n36
      replace BM := iN BM n36
      have CI : Hid (Calls Tryz.prog 13 #[.slice (some ⟨g, 0, none⟩) n c, .agg #[.int .i64 mode, .bool sum, .bool mxr, .int .u64 satp], .agg (kA p h0.k), .int .i64 kind, .int .u64 va, .int .i64 pick] v6 fun e w' => (∃ x, e = .returned x ∧ TransSep v6.heap.size w' x (ak ms mode sum mxr satp h0.k kind va pick)) ∧ Below v6.heap.size v6 w') := jB _ n c ms mode sum mxr satp _ h0.k kind va pick v6 BK.out BM.out (by omega) hv.1 hv.2 hs.1 hs.2
      have KS : (kA p h0.k).size = 9 := rfl
      clear hs6 P6 n6 n5 hi hkd n34 n36 n4 CD BK l6 H5
      generalize dg p pa pc h0 ps = SA at *
      generalize aD p h0 = HA at *
      generalize hAP : kA p h0.k = AP at *
      clear hAP
      go_upto_region 7 with (first | ((with_reducible refine au ?_ ?_ HS6.out ?_); (exact rfl); (exact rfl)))
      clear HS6 f1 f2 hf
      have J4 : Hid _ := aB (P := Tryz.prog) (T := 25) H4.out Tryz.underlying25 rfl fh
      have J5 : Hid _ := aB (P := Tryz.prog) (T := 30) H9.out Tryz.underlying30 rfl (by rw [KS]; exact cK)
      go_wp2_with (first | ((with_reducible refine az ?_ J4.out ?_); (exact rfl)) | ((with_reducible refine az ?_ J5.out ?_); (exact rfl)))
      refine CI.out.mono ?_
      rintro e v7 ⟨⟨x, rfl, tS⟩, n7⟩
      obtain ⟨a1', c1', a2', c2', a3', c3', rfl, -⟩ := tS.own.open q
      obtain ⟨v8, hs8, P8, l8, n8⟩ := dI v7 ztA (cI (pK q a1' c1' a2' c2' a3' c3') (ak ms mode sum mxr satp h0.k kind va pick)) 34 kj rfl (gv _ _)
      have HS8 : Hid _ := hs8
      obtain ⟨⟨P1, P2⟩, hPP⟩ : ∃ P, eu ms mode sum mxr satp kind va = P := ⟨_, rfl⟩
      have n68 := Below.step n7 n8 (Nat.le_refl _)
      replace nA := Below.step nA n68 (Nat.le_refl _)
      replace H4 := ae H4 n68
      replace BM := iN BM n68
      have HQ := HP.out
      rw [hPP] at HQ
      have bC0 : Hid (∀ u : World, u.heap[v7.heap.size]? = some (.cells (cI (pK q a1' c1' a2' c2' a3' c3') (ak ms mode sum mxr satp h0.k kind va pick)) 34 (0, 0)) → u.cell? ⟨v7.heap.size, 0, none⟩ = some (.int .i64 P1) ∧ u.cell? ⟨v7.heap.size, 1, none⟩ = some (.int .u64 P2)) := fun u hu => by
        have h1 := ag hu 0 (v := .int .i64 (ak ms mode sum mxr satp h0.k kind va pick).1.1) rfl
        have h2 := ag hu 1 (v := .int .u64 (ak ms mode sum mxr satp h0.k kind va pick).1.2) rfl
        rw [HQ] at h1 h2
        exact ⟨h1, h2⟩
      have H10 : Hid _ := P8
      have CPs : Hid (∀ u, Byt u (some ⟨g, 0, none⟩) n ms → Calls Tryz.prog 14 #[.slice (some ⟨g, 0, none⟩) n c, .agg #[.int .i64 mode, .bool sum, .bool mxr, .int .u64 satp], .int .i64 kind, .int .u64 va] u fun e w' => e = .returned (.agg #[.int .i64 P1, .int .u64 P2]) ∧ Below u.heap.size u w') := fun u hu => by
        have := jD _ n c ms mode sum mxr satp kind va u (by omega) hnc.1 hnc.2 hs.1 hs.2 hv.1 hv.2 hu
        rw [hPP] at this
        exact this
      have CPi : Hid (∀ u, Byt u (some ⟨g, 0, none⟩) n ms → Calls Tryz.prog 16 #[.slice (some ⟨g, 0, none⟩) n c, .agg #[.int .i64 mode, .bool sum, .bool mxr, .int .u64 satp], .int .i64 kind, .int .u64 va] u fun e w' => e = .returned (.agg #[.int .i64 P1, .int .u64 P2]) ∧ Below u.heap.size u w') := fun u hu => by
        have := sE (some ⟨g, 0, none⟩) n c ms mode sum mxr satp kind va u hu (by omega) hv.1 hv.2 hs.1 hs.2
        rw [hPP] at this
        exact this
      clear hs8 P8 n8 n7 n68 tS hPP HQ HP CI J4 J5 H9
      generalize cI (pK q a1' c1' a2' c2' a3' c3') (ak ms mode sum mxr satp h0.k kind va pick) = TB at *
      go_upto_region 8 with (first | ((with_reducible refine au ?_ ?_ HS8.out ?_); (exact rfl); (exact rfl)))
      clear HS8
      have J4 : Hid _ := aB (P := Tryz.prog) (T := 25) H4.out Tryz.underlying25 rfl fh
      go_wp2_with (first | ((with_reducible refine az ?_ J4.out ?_); (exact rfl)))
      refine (CPs.out v8 BM.out).mono ?_
      rintro e v9 ⟨rfl, n9⟩
      obtain ⟨v10, hs10, P10, l10, n10⟩ := dI v9 #[.int .i64 0, .int .u64 0] #[.int .i64 P1, .int .u64 P2] 43 uu rfl (uv _ _)
      have HS10 : Hid _ := hs10
      have n810 := Below.step n9 n10 (Nat.le_refl _)
      replace nA := Below.step nA n810 (Nat.le_refl _)
      replace H4 := ae H4 n810
      replace H10 := ae H10 n810
      replace BM := iN BM n810
      have H11 : Hid _ := P10
      clear hs10 P10 n10 n9 n810 J4
      go_upto_region 9 with (first | ((with_reducible refine au ?_ ?_ HS10.out ?_); (exact rfl); (exact rfl)))
      clear HS10
      have J4 : Hid _ := aB (P := Tryz.prog) (T := 25) H4.out Tryz.underlying25 rfl fh
      go_wp2_with (first | ((with_reducible refine az ?_ J4.out ?_); (exact rfl)))
      refine (CPi.out v10 BM.out).mono ?_
      rintro e v11 ⟨rfl, n11⟩
      obtain ⟨v12, hs12, P12, l12, n12⟩ := dI v11 #[.int .i64 0, .int .u64 0] #[.int .i64 P1, .int .u64 P2] 43 uu rfl (uv _ _)
      have HS12 : Hid _ := hs12
      have n1012 := Below.step n11 n12 (Nat.le_refl _)
      replace nA := Below.step nA n1012 (Nat.le_refl _)
      replace H10 := ae H10 n1012
      replace H11 := ae H11 n1012
      have H12 : Hid _ := P12
      clear hs12 P12 n12 n11 n1012 J4
      go_upto_region 10 with (first | ((with_reducible refine au ?_ ?_ HS12.out ?_); (exact rfl); (exact rfl)))
      obtain ⟨x0, x1⟩ := bC0.out v12 H10.out
      have y0 := ag H11.out 0 (v := .int .i64 P1) rfl
      have y1 := ag H11.out 1 (v := .int .u64 P2) rfl
      have w0 := ag H12.out 0 (v := .int .i64 P1) rfl
      have w1 := ag H12.out 1 (v := .int .u64 P2) rfl
      have te := zI P1 P2
      clear HS12 bC0 H10 H11 H12 CPs CPi
      go_wp2_with fail
      go_ret
      exact ⟨rfl, nA⟩
  · go_enter Tryz.func4, Tryz.ntmps4
    go_wp2_with fail
    go_ret
    exact ⟨rfl, Below.refl _ _⟩

/-! ### THE ROW's STEP: WRITTEN OUT: LEAVE IT -/
set_option maxRecDepth 100000 in
theorem lifted (os : Os) (started : os.Started) (H : Type) (enc : TypeId × Value → H) :
    ReturnsInHanded {} Tryz.checked os 4 .any (Rows.fnColdSpec.pre6 enc Tryz.prog Tryz.f4 Rows.fnColdRow.domain false) (Rows.fnColdSpec.post enc Tryz.prog Tryz.f4 false true false false) := by
  refine returnsInHanded_of_change (C := Tryz.checked) own started (by kernel_rfl) Tryz.func4
    (ChangeSpec.witness6 (enc := enc) (C := Tryz.checked) false ⟨#[], #[.slice none 0 0], []⟩ 8 (by kernel_rfl) (by kernel_rfl) (by kernel_rfl) (by kernel_rfl)) ?_
  intro W base args ds gs before hval0 hW hcnd _
  have hval : ∀ (j : Nat) t v, Tryz.f4.params[j]? = some t → args[j]? = some v → Value.okWide Tryz.prog W .any base t v := hval0
  have hW' := hW
  obtain ⟨p, q, hA0, hV, rfl, hfz, hnd⟩ := hW
  have hA : DataW.TrodAll enc Tryz.prog W 0 (fun _ => true) true Tryz.f4.params.toList args.toList ds p := hA0
  rw [Tryz.params4] at hA hval
  obtain ⟨v0, vs0, d0, ds0, p0, q0, hargs, rfl, rfl, h0, r0⟩ := trodAll_cons hA
  obtain ⟨rfl, rfl, rfl⟩ := trodAll_nil r0
  obtain rfl : args = #[v0] := by cases args; simp_all
  obtain ⟨rfl, rfl⟩ := trodVars_none hV
  obtain ⟨a0, len0, cap0, rfl⟩ := okWide_slice Tryz.underlying22 (hval 0 22 v0 rfl rfl)
  have k0 := h0
  have lt0 : ∀ x ∈ p0, x.block < W.heap.size := by obtain ⟨m, hm⟩ := k0; exact DataW.trod_lt m _ _ _ hm
  obtain ⟨z0, w0⟩ : ∃ zs, IsRow .u8 W a0 len0 cap0 zs := by
    obtain ⟨fuel, hf⟩ := h0
    rcases open_ints Tryz.underlying22 Tryz.underlying5 (by kernel_rfl) hf with ⟨hcs, _⟩ | ⟨x, l, c, zs, hcs, _, hl, hm, hz, _, hcell, hwz⟩
    · simp [Value.cells] at hcs
      obtain ⟨rfl, rfl, rfl⟩ := hcs
      exact ⟨[], .inl ⟨rfl, rfl, rfl, rfl⟩⟩
    · simp [Value.cells] at hcs
      obtain ⟨rfl, rfl, rfl⟩ := hcs
      exact ⟨zs, .inr ⟨_, rfl, hl, hm, by simpa using hz, hcell, hwz⟩⟩
  clear hA0 hval0
  refine (walk a0 len0 cap0 z0 W w0).mono fun e W' ⟨he, bel⟩ => ?_
  subst he
  exact ⟨_, rfl, _, _, _, [], _, [], hW', trodAll_mk1 (shut_bool Tryz.underlying4 _), (trodAll_cons_mk (Below.trod laidOut (by kernel_rfl) (of_decide_eq_true (by kernel_rfl)) k0 bel lt0) trodAll_mk0), rfl, bel.frame _, fun h => by cases h⟩

theorem over : Rows.fnColdRow.holds Tryz.pinned (OpenSpec.ofChange Rows.fnColdSpec) :=
  OpenClaim.holds_of_wide 4 Tryz.f4 rfl rfl rfl rfl rfl rfl rfl ⟨rfl, rfl, rfl, rfl, rfl⟩ rfl rfl rfl rfl rfl (by kernel_rfl) Tryz.func4 (by kernel_rfl)
    (of_decide_eq_true (by kernel_rfl)) (by unfold Func.isWrapper; first | (rw [if_pos (by decide +kernel)]; kernel_rfl) | (rw [if_neg (by decide +kernel)]; exact ⟨rfl, rfl⟩))
    (fun os started H enc _ => lifted os started H enc)

/-- ████ THE STATEMENT ████ -/
theorem proved : Rows.FnColdSaid := over
#print axioms proved
end Go.Proofs.YtaoaifmkhbgaiaaGreat.fnCold

namespace Go.Proofs.YtaoaifmkhbgaiaaGreat
theorem fnCold_holds : Rows.FnColdSaid := fnCold.proved
end Go.Proofs.YtaoaifmkhbgaiaaGreat
