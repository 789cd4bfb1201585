import Derived.Test.YthekickjjaleaacGreatPack27
import Derived.Test.YthekickjjaleaacGreatPack24
import Derived.Test.YthekickjjaleaacGreatPack23
import Derived.Deep.DeepCutAuto
import Derived.Test.YthekickjjaleaacGreatPack29
/- The program's find, for one kind of cache. Written by mk4.py. -/
namespace Go.Proofs.YthekickjjaleaacGreat
open Go.RowKit
set_option linter.unusedVariables false
attribute [local go_sem ↓] Go.wp_at_zero Go.wp_at_succ

set_option maxRecDepth 20000 in
set_option maxHeartbeats 3200000 in
theorem findL_any (b o g n : Nat) (t : TlbM) (va asid : Int) (w : World) (hn : t.es.length = n) (hn1 : n ≤ 1048576) (hv : validM t false = true) (hbl : b < w.heap.size)
    (c0 : w.cell? ⟨b, o, none⟩ = some (.int .i64 t.sets)) (c1 : w.cell? ⟨b, o + 1, none⟩ = some (.int .i64 t.ways)) (c2 : w.cell? ⟨b, o + 2, none⟩ = some (.slice (some ⟨g, 0, none⟩) n n)) (hr : RowC w (some ⟨g, 0, none⟩) n 6 (slotsC t.es)) (hv0 : 0 ≤ va) (hv1 : va ≤ 18446744073709551615) :
    Calls Tryz.prog 106 #[.pointer (some ⟨b, o, none⟩), .int .u64 va, .int .u64 asid] w fun e w' => e = .returned (.tuple #[.int .i64 (hitM t va asid).2.1, .bool (hitM t va asid).1]) ∧ Below w.heap.size w w' := by
  obtain ⟨hs4, hw1, hw4, hnw⟩ := shape_at hv
  have HV : Hid (validM t false = true) := hv
  have HEi : Hid (eitherM t = true) := either_of hv
  have HR : Hid (RowC w (some ⟨g, 0, none⟩) n 6 (slotsC t.es)) := hr
  have HN : Hid (t.es.length = n) := hn
  have HNw : Hid ((n : Int) = t.sets * t.ways) := by show _ = _; rw [← hn]; exact hnw
  obtain ⟨X, hX⟩ : ∃ X, hitM t va asid = X := ⟨_, rfl⟩
  have HX : Hid (hitM t va asid = X) := hX
  rw [hX]
  clear hX hv hr hnw hn
  obtain ⟨sets, ways, es⟩ := t
  simp only at *
  go_enter Tryz.func106, Tryz.ntmps106
  go_wp2_with fail
  go_loopw [12] (fun i wr => ∃ l : Nat, l ≤ 3 ∧ i = .int .i64 l ∧ Hid (∀ l' : Nat, l' < l → findL va asid l' 0 es = none) ∧ Below w.heap.size w wr) (fun i _ => 3 - (intOf i).toNat)
  case atStart => exact ⟨0, by omega, rfl, fun l' h => absurd h (by omega), Below.refl _ _⟩
  case round =>
    obtain ⟨l, hl, rfl, HF, hb⟩ := hrel
    by_cases hlt : l < 3
    · have hl3 : (l : Int) = 0 ∨ (l : Int) = 1 ∨ (l : Int) = 2 := by omega
      obtain ⟨tm, htm⟩ : ∃ tm, tagM va l = tm := ⟨_, rfl⟩
      have htb := tagM_lim va l hl3
      rw [htm] at htb
      obtain ⟨sx, hsx⟩ : ∃ sx, tm % sets = sx := ⟨_, rfl⟩
      have hsb : 0 ≤ sx ∧ sx < sets := by rw [← hsx]; exact ⟨Int.emod_nonneg _ (by omega), Int.emod_lt_of_pos _ (by omega)⟩
      obtain ⟨f, hf⟩ : ∃ f : Nat, (f : Int) = sx * ways := ⟨(sx * ways).toNat, Int.toNat_of_nonneg (Int.mul_nonneg hsb.1 (by omega))⟩
      have hfn : (f : Int) + ways ≤ n := by
        rw [HNw.out, hf]
        have : (sx + 1) * ways ≤ sets * ways := Int.mul_le_mul_of_nonneg_right (by omega) (by omega)
        rw [Int.add_mul, Int.one_mul] at this
        exact this
      have HFi : Hid ((f : Int) = tagM va l % sets * ways) := by show _ = _; rw [htm, hsx]; exact hf
      have HWm : Hid (sx * ways = (f : Int)) := hf.symm
      have r0 : wr.cell? ⟨b, o, none⟩ = some (.int .i64 sets) := Below.cell2 hb c0 hbl
      have r1 : wr.cell? ⟨b, o + 1, none⟩ = some (.int .i64 ways) := Below.cell2 hb c1 hbl
      have HTg : Hid (∀ u, Calls Tryz.prog 154 #[.int .u64 va, .int .i64 l] u fun e w' => e = .returned (.int .u64 tm) ∧ ∃ q, w' = u.drewN q) := fun u => by
        have := tag_at va l u hv0 hv1 hl3
        rw [htm] at this
        exact this
      have HSt : Hid (∀ q, Calls Tryz.prog 150 #[.pointer (some ⟨b, o, none⟩), .int .u64 tm] (wr.drewN q) fun e w' => e = .returned (.int .i64 sx) ∧ w' = wr.drewN q) := fun q => by
        have := setOfL_at b o sets tm (wr.drewN q) hs4 r0 htb.1 (by omega)
        rw [hsx] at this
        exact this
      clear htm hsx
      go_wp2_with fail
      go_cut [9] (fun s9 wx => s9 = .int .i64 f ∧ ∃ q, wx = wr.drewN q)
      case first =>
        go_quiet (first
          | (go_at_call 154; exact Calls.quiet_of (HTg.out _))
          | (go_at_call 150; exact Calls.quiet_of_same (HSt.out _)))
        go_wp2_with fail
        go_meet
        exact ⟨by rw [HWm.out], nq, rfl⟩
      case rest =>
        obtain ⟨rfl, q, rfl⟩ := hcut
        have hb2 : Below w.heap.size w (wr.drewN q) := below_drewN hb q
        generalize wr.drewN q = v2 at hb2 ⊢
        clear r0 r1 hb HTg HSt HWm hsb hf
        go_wp2_with fail
        rename_i wr0
        go_loopw [10] (fun i wr => ∃ q : Nat, f ≤ q ∧ (q : Int) ≤ f + ways ∧ i = .int .i64 q ∧ Hid (∀ (q' : Nat) x, f ≤ q' → q' < q → es[q']? = some x → hitB va asid l x = false) ∧ Below w.heap.size w wr) (fun i _ => f + 4 - (intOf i).toNat)
        case atStart => exact ⟨f, Nat.le_refl _, by omega, rfl, fun q' x h h' => absurd h' (by omega), hb2⟩
        case round =>
          obtain ⟨q, hq1, hq2, rfl, HQ, hb3⟩ := hrel
          have r1 : wr.cell? ⟨b, o + 1, none⟩ = some (.int .i64 ways) := Below.cell2 hb3 c1 hbl
          have r2 : wr.cell? ⟨b, o + 2, none⟩ = some (.slice (some ⟨g, 0, none⟩) n n) := Below.cell2 hb3 c2 hbl
          by_cases hqt : (q : Int) < f + ways
          · have hqn : q < n := by omega
            obtain ⟨⟨vv, lv, tg, asd, gl, pt⟩, hx⟩ : ∃ x, es[q]? = some x := ⟨_, List.getElem?_eq_getElem (by rw [HN.out]; exact hqn)⟩
            have HXq : Hid (es[q]? = some ⟨vv, lv, tg, asd, gl, pt⟩) := hx
            have CE : ∀ j u, j < 6 → (slotC ⟨vv, lv, tg, asd, gl, pt⟩)[j]? = some u → wr.cell? ⟨g, q * 6 + j, none⟩ = some u := fun j u hj hu => slotRow_cell (HR.out.keep hb3) HN.out q _ hx j u hj hu
            have g0 : wr.cell? ⟨g, q * 6, none⟩ = some (.int .i64 lv) := CE 0 _ (by omega) rfl
            have g1 : wr.cell? ⟨g, q * 6 + 1, none⟩ = some (.int .u64 tg) := CE 1 _ (by omega) rfl
            have g2 : wr.cell? ⟨g, q * 6 + 2, none⟩ = some (.int .u64 asd) := CE 2 _ (by omega) rfl
            have g3 : wr.cell? ⟨g, q * 6 + 3, none⟩ = some (.bool gl) := CE 3 _ (by omega) rfl
            have g4 : wr.cell? ⟨g, q * 6 + 4, none⟩ = some (.bool vv) := CE 4 _ (by omega) rfl
            have HNx : Hid (hitB va asid l ⟨vv, lv, tg, asd, gl, pt⟩ = false → ∀ (q' : Nat) x, f ≤ q' → q' < q + 1 → es[q']? = some x → hitB va asid l x = false) := fun h q' x h1 h2 h3 => by
              by_cases e : q' = q
              · subst e; rw [HXq.out] at h3; cases h3; exact h
              · exact HQ.out q' x h1 (by omega) h3
            clear CE hx
            cases vv
            · go_wp2_with fail
              go_roundw
              case rel => exact ⟨q + 1, by omega, by omega, by go_num, HNx.out (by simp [hitB, fitsM]), hb3⟩
              case measure => simp [intOf]; omega
            · by_cases hlv : lv = l
              · subst hlv
                obtain ⟨fb, hfb⟩ : ∃ fb, ((tg == tagM va l) && (gl || asd == asid)) = fb := ⟨_, rfl⟩
                have HFt : Hid (∀ u, Calls Tryz.prog 155 #[.agg #[.int .i64 l, .int .u64 tg, .int .u64 asd, .bool gl], .int .u64 va, .int .u64 asid] u fun e w' => e = .returned (.bool fb) ∧ Below u.heap.size u w') := fun u => by
                  have := fits_any l tg asd va asid gl u hl3 hv0 hv1
                  rw [hfb] at this
                  exact this
                have HHb : Hid (hitB va asid l ⟨true, l, tg, asd, gl, pt⟩ = fb) := by
                  show _ = _
                  rw [← hfb]
                  simp [hitB, fitsM]
                clear hfb
                go_wp2_with fail
                refine (HFt.out wr).mono ?_
                rintro e v5 ⟨rfl, n5⟩
                have A5 := Below.step hb3 n5 (Nat.le_refl _)
                cases fb
                · go_wp2_with fail
                  go_roundw
                  case rel => exact ⟨q + 1, by omega, by omega, by go_num, HNx.out HHb.out, A5⟩
                  case measure => simp [intOf]; omega
                · have hx : X = (true, (q : Int), (l : Int), pt) := by
                    rw [← HX.out]
                    have hfi := find_some (t := ⟨sets, ways, es⟩) (k := q - f) HV.out HFi.out (by simp only; rw [show f + (q - f) = q by omega]; exact HXq.out) HHb.out (fun j y hj hy => HQ.out (f + j) y (by omega) (by omega) hy)
                    rw [show f + (q - f) = q by omega] at hfi
                    exact hitM_at ⟨sets, ways, es⟩ va asid l q _ HEi.out (by omega) HF.out hfi
                  subst hx
                  go_wp2_with fail
                  exact bodyPost_ret (v := .tuple #[.int .i64 q, .bool true]) (by simp [results, Tryz.results106, go_sem]) rfl ⟨rfl, A5⟩
              · have hlv' : (lv == (l : Int)) = false := by simpa using hlv
                go_wp2_with fail
                go_roundw
                case rel => exact ⟨q + 1, by omega, by omega, by go_num, HNx.out (by simp [hitB, hlv]), hb3⟩
                case measure => simp [intOf]; omega
          · have hqe : (q : Int) = f + ways := by omega
            have hnn : findL va asid l 0 es = none := find_none (t := ⟨sets, ways, es⟩) HV.out HFi.out (fun j x hj hx => HQ.out (f + j) x (by omega) (by simp only at hj; omega) hx)
            have HNn : Hid (findL va asid l 0 es = none) := hnn
            clear hnn
            go_wp2_with fail
            go_roundw
            case rel => exact ⟨l + 1, by omega, by go_num, fun l' hl' => by
              by_cases e : l' = l
              · subst e; exact HNn.out
              · exact HF.out l' (by omega), hb3⟩
            case measure => simp [intOf]; omega
    · have hl3 : l = 3 := by omega
      subst hl3
      have hx : X = (false, 0, 0, 0) := by
        rw [← HX.out]
        exact hitM_none _ va asid HEi.out HF.out
      subst hx
      go_wp2_with fail
      exact bodyPost_ret (v := .tuple #[.int .i64 0, .bool false]) (by simp [results, Tryz.results106, go_sem]) rfl ⟨rfl, hb⟩

end Go.Proofs.YthekickjjaleaacGreat

/- The program's phys: one translation with caches. -/
namespace Go.Proofs.YthekickjjaleaacGreat
open Go.RowKit
set_option linter.unusedVariables false

def PhAns (w w' : World) (e : Ending) (b base gi gd gp : Nat) (kind : Int) (X : (Int × Int) × KM) : Prop :=
  ∃ pa code, e = .returned (.tuple #[.int .u64 pa, faultV code]) ∧ (code = 1 ∨ code = 2 ∨ code = 3) ∧ X.1 = (if code = 1 then 0 else if code = 2 then pageM kind else accessM kind, pa) ∧ SetAt w' b base gi gd gp X.2 ∧ Keeps w w' gi gd gp

set_option maxRecDepth 20000 in
set_option maxHeartbeats 3200000 in
theorem phys_any (b base gi gd gp : Nat) (k : KM) (sv : Value) (zs : List Int) (mode : Int) (sum mxr : Bool) (satp kind va pick : Int) (w : World) (hS : SetAt w b base gi gd gp k) (hk : goodKM k = true) (hki : ∀ e ∈ k.i.es, entOk e) (hkd : ∀ e ∈ k.d.es, entOk e) (hko : ∀ e ∈ k.p.es, entOk e) (hli : k.i.es.length ≤ 1048576) (hld : k.d.es.length ≤ 1048576) (hkl : k.p.es.length ≤ 1048576)
    (hB : SrcAt w sv zs) (hv0 : 0 ≤ va) (hv1 : va ≤ 18446744073709551615) (hr0 : 0 ≤ satp) (hr1 : satp ≤ 18446744073709551615) (hp0 : 0 ≤ pick) (hp1 : pick ≤ 255) (hm : 0 ≤ mode ∧ mode ≤ 2) (hkk : 0 ≤ kind ∧ kind ≤ 2) :
    Calls Tryz.prog 57 #[.pointer (some ⟨b, 0, none⟩), sv, .agg #[.int .i64 mode, .bool sum, .bool mxr, .int .u64 satp], .int .i64 kind, .int .u64 va, .int .i64 pick] w fun e w' => PhAns w w' e b base gi gd gp kind (tlbTransM zs mode sum mxr satp k kind va pick) := by
  have hvs : validM k.i false = true ∧ validM k.d false = true ∧ validM k.p true = true := by
    have hk' := hk
    simp only [goodKM, Bool.and_eq_true] at hk'
    exact ⟨hk'.1.1, hk'.1.2, hk'.2⟩
  obtain ⟨vI, vD, vP⟩ := hvs
  have HS : Hid (SetAt w b base gi gd gp k) := hS
  have HB : Hid (SrcAt w sv zs) := hB
  have HT0 : Hid (tlbTransM zs mode sum mxr satp k kind va pick = if onM mode satp = false then ((0, va), k) else if canonM va = false then ((pageM kind, 0), k) else if (hitM (pickM k kind) va (asidM satp)).1 = true then (leafM (hitM (pickM k kind) va (asidM satp)).2.2.2 (hitM (pickM k kind) va (asidM satp)).2.2.1 mode sum mxr kind va, k)
      else (answerM (resumeM zs satp va (hitM k.p va (asidM satp))) mode sum mxr kind va, if (answerM (resumeM zs satp va (hitM k.p va (asidM satp))) mode sum mxr kind va).1 = 0 then putM ⟨k.i, k.d, ptrsM va satp pick (resumeM zs satp va (hitM k.p va (asidM satp))).2.2.2 k.p⟩ kind (insertM (pickM k kind) (entM (resumeM zs satp va (hitM k.p va (asidM satp))).2.1 va satp (resumeM zs satp va (hitM k.p va (asidM satp))).2.2.1) pick) else ⟨k.i, k.d, ptrsM va satp pick (resumeM zs satp va (hitM k.p va (asidM satp))).2.2.2 k.p⟩)) := by
    show _ = _
    rw [tlbTransM, if_neg (by rw [hk]; simp; omega)]
  obtain ⟨onb, hon⟩ : ∃ onb, onM mode satp = onb := ⟨_, rfl⟩
  obtain ⟨cnb, hcan⟩ : ∃ cnb, canonM va = cnb := ⟨_, rfl⟩
  have HOn : Hid (∀ u : World, Calls Tryz.prog 103 #[.agg #[.int .i64 mode, .bool sum, .bool mxr, .int .u64 satp]] u fun e w' => e = .returned (.bool onb) ∧ Below u.heap.size u w') := fun u => by
    have := translates_at mode sum mxr satp u hr0 hr1
    rw [hon] at this
    exact this
  have HCn : Hid (∀ u : World, Calls Tryz.prog 104 #[.int .u64 va] u fun e w' => e = .returned (.bool cnb) ∧ w' = u) := fun u => by
    have := canonical_at va u hv0 hv1
    rw [hcan] at this
    exact this
  have HLv : Hid (∀ u : World, Calls Tryz.prog 105 #[.pointer (some ⟨b, 0, none⟩), .int .i64 kind] u fun e w' => e = .returned (.pointer (some ⟨b, if kind = 0 then 0 else 3, none⟩)) ∧ w' = u) := fun u => leaves_at b kind u
  have n1 := (Below.refl w.heap.size w).alloc (Nat.le_refl _) (Obj.cells #[.int .i64 mode, .bool sum, .bool mxr, .int .u64 satp] 41)
  have H1 : Hid ((w.alloc (Obj.cells #[.int .i64 mode, .bool sum, .bool mxr, .int .u64 satp] 41)).heap[w.heap.size]? = some (.cells #[.int .i64 mode, .bool sum, .bool mxr, .int .u64 satp] 41 (0, 0))) := heap_alloc_new w _
  clear hS hB
  have HOnE : Hid (onM mode satp = onb) := hon
  have HCnE : Hid (canonM va = cnb) := hcan
  clear hon hcan
  go_enter Tryz.func57, Tryz.ntmps57
  go_wp2_with fail
  generalize w.alloc (Obj.cells #[.int .i64 mode, .bool sum, .bool mxr, .int .u64 satp] 41) = v1 at n1 H1 ⊢
  refine (HOn.out v1).mono ?_
  rintro e v2 ⟨rfl, n2⟩
  have A2 := Below.step n1 n2 (Nat.le_refl _)
  have H2 := hid_keep H1 n2
  clear n1 n2 H1 HOn
  cases onb
  · have hon := HOnE.out
    go_wp2_with fail
    refine bodyPost_ret (v := .tuple #[.int .u64 va, .nilIface]) (by simp [results, Tryz.results57, go_sem]) rfl ⟨va, 1, rfl, .inl rfl, ?_, ?_, Keeps.of_below _ _ _ A2⟩
    · rw [HT0.out, if_pos hon]; simp
    · rw [HT0.out, if_pos hon]; exact HS.out.keep A2
  have hon := HOnE.out
  go_wp2_with fail
  refine (HCn.out v2).mono ?_
  rintro e v2' ⟨rfl, hv2⟩
  rw [hv2]
  clear hv2 v2'
  cases cnb
  · have hcan := HCnE.out
    go_wp2_with fail
    refine bodyPost_ret (v := .tuple #[.int .u64 0, .iface 203 (.agg #[])]) (by simp [results, Tryz.results57, go_sem]) rfl ⟨0, 2, rfl, .inr (.inl rfl), ?_, ?_, Keeps.of_below _ _ _ A2⟩
    · rw [HT0.out, if_neg (by rw [hon]; simp), if_pos hcan]; simp
    · rw [HT0.out, if_neg (by rw [hon]; simp), if_pos hcan]; exact HS.out.keep A2
  have hcan := HCnE.out
  go_wp2_with fail
  refine (HLv.out v2).mono ?_
  have A3 := A2
  have H3 := H2
  clear A2 H2 HLv HCn
  obtain ⟨⟨c0, c1, c2, c3⟩, _, _, _, _⟩ := four_cells H3.out
  by_cases hkz : kind = 0
  · subst hkz
    rw [if_pos rfl]
    rintro e v3' ⟨rfl, hv3⟩
    rw [hv3]
    clear hv3 v3'
    have hpk : pickM k 0 = k.i := by unfold pickM; rw [if_pos rfl]
    obtain ⟨⟨fd, ix, lv, pt⟩, hX⟩ : ∃ X, hitM k.i va (asidM satp) = X := ⟨_, rfl⟩
    have HX : Hid (hitM k.i va (asidM satp) = (fd, ix, lv, pt)) := hX
    have S3 := HS.out.keep A3
    obtain ⟨p0, p1, p2⟩ := S3.cellI
    have HF : Hid (∀ u, Below w.heap.size w u → Calls Tryz.prog 106 #[.pointer (some ⟨b, 0, none⟩), .int .u64 va, .int .u64 (asidM satp)] u fun e w' => e = .returned (.tuple #[.int .i64 ix, .bool fd]) ∧ Below u.heap.size u w') := fun u hu => by
      have S := HS.out.keep hu
      obtain ⟨c0, c1, c2⟩ := S.cellI
      have := findL_any b 0 gi k.i.es.length k.i va (asidM satp) u rfl hli vI S.lt c0 c1 c2 (row_own S.2.1.1) hv0 hv1
      rw [hX] at this
      exact this
    clear hX
    go_wp2_with fail
    refine (asidOf_at satp v2 hr0 hr1).mono ?_
    rintro e u ⟨rfl, hu⟩
    rw [hu]
    clear hu u
    go_wp2_with fail
    refine (HF.out v2 A3).mono ?_
    rintro e v4 ⟨rfl, n4⟩
    have A4 := Below.step A3 n4 (Nat.le_refl _)
    have H4 := hid_keep H3 n4
    clear c0 c1 c2 c3 p0 p1 p2 H3 n4
    obtain ⟨⟨c0, c1, c2, c3⟩, _, _, _, _⟩ := four_cells H4.out
    cases fd
    · have hres : tlbTransM zs mode sum mxr satp k 0 va pick = (answerM (resumeM zs satp va (hitM k.p va (asidM satp))) mode sum mxr 0 va, if (answerM (resumeM zs satp va (hitM k.p va (asidM satp))) mode sum mxr 0 va).1 = 0 then keptM k 0 va satp pick (resumeM zs satp va (hitM k.p va (asidM satp))) 1 else keptM k 0 va satp pick (resumeM zs satp va (hitM k.p va (asidM satp))) 2) := by
        rw [HT0.out, if_neg (by rw [hon]; simp), if_neg (by rw [hcan]; simp), hpk, if_neg (by rw [HX.out]; simp)]
        simp only [keptM, if_true, hpk, show ¬ ((2 : Int) = 1) by decide, if_false]
      have HRes : Hid _ := hres
      clear hres
      go_wp2_with fail
      refine (walkAndKeep_any b base gi gd gp k sv zs mode sum mxr satp 0 va pick v4 (HS.out.keep A4) hk hko hli hld hkl (HB.out.keep A4) hv0 hv1 hr0 hr1 hp0 hp1).mono ?_
      rintro e v5 hw
      obtain ⟨pa, code, rfl, hcode, hans, hset, hkp⟩ := hw
      have HT5 : Hid (SetAt v5 b base gi gd gp (tlbTransM zs mode sum mxr satp k 0 va pick).2) := by
        rw [HRes.out, hans]
        simp only
        rcases hcode with rfl | rfl | rfl
        · simp only [if_true]
          exact hset
        · have hne := pageM_ne 0
          simp only [show ¬ ((2 : Int) = 1) by decide, if_false, if_true, hne]
          exact hset
        · have hne := accessM_ne 0
          simp only [show ¬ ((3 : Int) = 1) by decide, show ¬ ((3 : Int) = 2) by decide, if_false, hne]
          have : keptM k 0 va satp pick (resumeM zs satp va (hitM k.p va (asidM satp))) 3 = keptM k 0 va satp pick (resumeM zs satp va (hitM k.p va (asidM satp))) 2 := by simp [keptM]
          rw [← this]
          exact hset
      have HA5 : Hid ((tlbTransM zs mode sum mxr satp k 0 va pick).1 = (if code = 1 then 0 else if code = 2 then pageM 0 else accessM 0, pa)) := by
        show _ = _
        rw [HRes.out]
        exact hans
      have HK5 : Hid (Keeps w v5 gi gd gp) := (Keeps.of_below _ _ _ A4).trans hkp
      obtain ⟨fv, hfv⟩ : ∃ fv, faultV code = fv := ⟨_, rfl⟩
      have HFv : Hid (faultV code = fv) := hfv
      rw [hfv]
      clear hfv hans hset hkp HRes
      go_wp2_with fail
      exact bodyPost_ret (v := .tuple #[.int .u64 pa, fv]) (by simp [results, Tryz.results57, go_sem]) rfl ⟨pa, code, by rw [HFv.out], hcode, HA5.out, HT5.out, HK5.out⟩
    · obtain ⟨q, x, hx, hi, hlv, hpt, _, hxv⟩ := hit_get k.i va (asidM satp) (by rw [HX.out])
      rw [HX.out] at hi hlv hpt
      simp only at hi hlv hpt
      subst hi hlv hpt
      have hres : tlbTransM zs mode sum mxr satp k 0 va pick = (leafM x.pte x.level mode sum mxr 0 va, k) := by
        rw [HT0.out, if_neg (by rw [hon]; simp), if_neg (by rw [hcan]; simp), hpk, if_pos (by rw [HX.out]), HX.out]
      have HRes : Hid _ := hres
      have hok := hki x (List.mem_of_getElem? hx)
      have hlx := either_level (either_of vI) q x hx hxv
      have S4 := HS.out.keep A4
      have hql : q < k.i.es.length := (List.getElem?_eq_some_iff.1 hx).1
      obtain ⟨_, _, p2⟩ := S4.cellI
      have p2' : v4.cell? ⟨b, 2, none⟩ = some (.slice (some ⟨gi, 0, none⟩) k.i.es.length k.i.es.length) := p2
      have CE : ∀ j u, j < 6 → (slotC x)[j]? = some u → v4.cell? ⟨gi, q * 6 + j, none⟩ = some u := fun j u hj hu => slotRow_cell (row_own S4.2.1.1) rfl q _ hx j u hj hu
      have g0 : v4.cell? ⟨gi, q * 6, none⟩ = some (.int .i64 x.level) := CE 0 _ (by omega) rfl
      have g1 : v4.cell? ⟨gi, q * 6 + 1, none⟩ = some (.int .u64 x.tag) := CE 1 _ (by omega) rfl
      have g2 : v4.cell? ⟨gi, q * 6 + 2, none⟩ = some (.int .u64 x.asid) := CE 2 _ (by omega) rfl
      have g3 : v4.cell? ⟨gi, q * 6 + 3, none⟩ = some (.bool x.glob) := CE 3 _ (by omega) rfl
      have g4 : v4.cell? ⟨gi, q * 6 + 4, none⟩ = some (.bool x.valid) := CE 4 _ (by omega) rfl
      have g5 : v4.cell? ⟨gi, q * 6 + 5, none⟩ = some (.int .u64 x.pte) := CE 5 _ (by omega) rfl
      have HTL : Hid (∀ u : World, Calls Tryz.prog 109 #[.int .u64 x.pte, .int .i64 x.level, .agg #[.int .i64 mode, .bool sum, .bool mxr, .int .u64 satp], .int .i64 0, .int .u64 va] u fun e w' => e = .returned (.tuple #[.int .u64 (if grantM x.pte 0 mode sum mxr = true then physM x.pte x.level va else 0), faultV (if grantM x.pte 0 mode sum mxr = true then 1 else 2)]) ∧ Below u.heap.size u w') := fun u => throughLeaf_any x.pte x.level mode sum mxr satp 0 va u hok.2.2.2.1 hok.2.2.2.2 hv0 hv1 (by omega)
      clear CE p2 hres hx hxv
      have n5 := (Below.refl v4.heap.size v4).alloc (Nat.le_refl _) (Obj.cells #[.int .i64 x.level, .int .u64 x.tag, .int .u64 x.asid, .bool x.glob, .bool x.valid, .int .u64 x.pte] 211)
      have lw : w.heap.size < v4.heap.size := (Array.getElem?_eq_some_iff.1 H4.out).1
      go_wp2_with fail
      generalize v4.alloc (Obj.cells #[.int .i64 x.level, .int .u64 x.tag, .int .u64 x.asid, .bool x.glob, .bool x.valid, .int .u64 x.pte] 211) = v5 at n5 ⊢
      refine (HTL.out v5).mono ?_
      have A5 := Below.step A4 n5 (Nat.le_refl _)
      by_cases hgr : grantM x.pte 0 mode sum mxr = true
      · rw [if_pos hgr, if_pos hgr, show faultV 1 = .nilIface from rfl]
        rintro e v6 ⟨rfl, N6⟩
        have A6 := Below.step A5 N6 (Nat.le_refl _)
        go_wp2_with fail
        refine bodyPost_ret (v := .tuple #[.int .u64 (physM x.pte x.level va), .nilIface]) (by simp [results, Tryz.results57, go_sem]) rfl ⟨_, 1, rfl, .inl rfl, ?_, ?_, Keeps.of_below _ _ _ A6⟩
        · rw [HRes.out]
          simp [leafM, hgr]
        · rw [HRes.out]
          exact HS.out.keep A6
      · rw [if_neg hgr, if_neg hgr, show faultV 2 = .iface 203 (.agg #[]) from rfl]
        rintro e v6 ⟨rfl, N6⟩
        have A6 := Below.step A5 N6 (Nat.le_refl _)
        go_wp2_with fail
        refine bodyPost_ret (v := .tuple #[.int .u64 0, .iface 203 (.agg #[])]) (by simp [results, Tryz.results57, go_sem]) rfl ⟨0, 2, rfl, .inr (.inl rfl), ?_, ?_, Keeps.of_below _ _ _ A6⟩
        · rw [HRes.out]
          simp [leafM, hgr]
        · rw [HRes.out]
          exact HS.out.keep A6
  · rw [if_neg hkz]
    rintro e v3' ⟨rfl, hv3⟩
    rw [hv3]
    clear hv3 v3'
    have hpk : pickM k kind = k.d := by unfold pickM; rw [if_neg hkz]
    obtain ⟨⟨fd, ix, lv, pt⟩, hX⟩ : ∃ X, hitM k.d va (asidM satp) = X := ⟨_, rfl⟩
    have HX : Hid (hitM k.d va (asidM satp) = (fd, ix, lv, pt)) := hX
    have S3 := HS.out.keep A3
    obtain ⟨p0, p1, p2⟩ := S3.cellD
    have HF : Hid (∀ u, Below w.heap.size w u → Calls Tryz.prog 106 #[.pointer (some ⟨b, 3, none⟩), .int .u64 va, .int .u64 (asidM satp)] u fun e w' => e = .returned (.tuple #[.int .i64 ix, .bool fd]) ∧ Below u.heap.size u w') := fun u hu => by
      have S := HS.out.keep hu
      obtain ⟨c0, c1, c2⟩ := S.cellD
      have := findL_any b 3 gd k.d.es.length k.d va (asidM satp) u rfl hld vD S.lt c0 c1 c2 (row_own S.2.1.2.1) hv0 hv1
      rw [hX] at this
      exact this
    clear hX
    go_wp2_with fail
    refine (asidOf_at satp v2 hr0 hr1).mono ?_
    rintro e u ⟨rfl, hu⟩
    rw [hu]
    clear hu u
    go_wp2_with fail
    refine (HF.out v2 A3).mono ?_
    rintro e v4 ⟨rfl, n4⟩
    have A4 := Below.step A3 n4 (Nat.le_refl _)
    have H4 := hid_keep H3 n4
    clear c0 c1 c2 c3 p0 p1 p2 H3 n4
    obtain ⟨⟨c0, c1, c2, c3⟩, _, _, _, _⟩ := four_cells H4.out
    cases fd
    · have hres : tlbTransM zs mode sum mxr satp k kind va pick = (answerM (resumeM zs satp va (hitM k.p va (asidM satp))) mode sum mxr kind va, if (answerM (resumeM zs satp va (hitM k.p va (asidM satp))) mode sum mxr kind va).1 = 0 then keptM k kind va satp pick (resumeM zs satp va (hitM k.p va (asidM satp))) 1 else keptM k kind va satp pick (resumeM zs satp va (hitM k.p va (asidM satp))) 2) := by
        rw [HT0.out, if_neg (by rw [hon]; simp), if_neg (by rw [hcan]; simp), hpk, if_neg (by rw [HX.out]; simp)]
        simp only [keptM, if_true, hpk, show ¬ ((2 : Int) = 1) by decide, if_false]
      have HRes : Hid _ := hres
      clear hres
      go_wp2_with fail
      refine (walkAndKeep_any b base gi gd gp k sv zs mode sum mxr satp kind va pick v4 (HS.out.keep A4) hk hko hli hld hkl (HB.out.keep A4) hv0 hv1 hr0 hr1 hp0 hp1).mono ?_
      rintro e v5 hw
      obtain ⟨pa, code, rfl, hcode, hans, hset, hkp⟩ := hw
      have HT5 : Hid (SetAt v5 b base gi gd gp (tlbTransM zs mode sum mxr satp k kind va pick).2) := by
        rw [HRes.out, hans]
        simp only
        rcases hcode with rfl | rfl | rfl
        · simp only [if_true]
          exact hset
        · have hne := pageM_ne kind
          simp only [show ¬ ((2 : Int) = 1) by decide, if_false, if_true, hne]
          exact hset
        · have hne := accessM_ne kind
          simp only [show ¬ ((3 : Int) = 1) by decide, show ¬ ((3 : Int) = 2) by decide, if_false, hne]
          have : keptM k kind va satp pick (resumeM zs satp va (hitM k.p va (asidM satp))) 3 = keptM k kind va satp pick (resumeM zs satp va (hitM k.p va (asidM satp))) 2 := by simp [keptM]
          rw [← this]
          exact hset
      have HA5 : Hid ((tlbTransM zs mode sum mxr satp k kind va pick).1 = (if code = 1 then 0 else if code = 2 then pageM kind else accessM kind, pa)) := by
        show _ = _
        rw [HRes.out]
        exact hans
      have HK5 : Hid (Keeps w v5 gi gd gp) := (Keeps.of_below _ _ _ A4).trans hkp
      obtain ⟨fv, hfv⟩ : ∃ fv, faultV code = fv := ⟨_, rfl⟩
      have HFv : Hid (faultV code = fv) := hfv
      rw [hfv]
      clear hfv hans hset hkp HRes
      go_wp2_with fail
      exact bodyPost_ret (v := .tuple #[.int .u64 pa, fv]) (by simp [results, Tryz.results57, go_sem]) rfl ⟨pa, code, by rw [HFv.out], hcode, HA5.out, HT5.out, HK5.out⟩
    · obtain ⟨q, x, hx, hi, hlv, hpt, _, hxv⟩ := hit_get k.d va (asidM satp) (by rw [HX.out])
      rw [HX.out] at hi hlv hpt
      simp only at hi hlv hpt
      subst hi hlv hpt
      have hres : tlbTransM zs mode sum mxr satp k kind va pick = (leafM x.pte x.level mode sum mxr kind va, k) := by
        rw [HT0.out, if_neg (by rw [hon]; simp), if_neg (by rw [hcan]; simp), hpk, if_pos (by rw [HX.out]), HX.out]
      have HRes : Hid _ := hres
      have hok := hkd x (List.mem_of_getElem? hx)
      have hlx := either_level (either_of vD) q x hx hxv
      have S4 := HS.out.keep A4
      have hql : q < k.d.es.length := (List.getElem?_eq_some_iff.1 hx).1
      obtain ⟨_, _, p2⟩ := S4.cellD
      have p2' : v4.cell? ⟨b, 5, none⟩ = some (.slice (some ⟨gd, 0, none⟩) k.d.es.length k.d.es.length) := p2
      have CE : ∀ j u, j < 6 → (slotC x)[j]? = some u → v4.cell? ⟨gd, q * 6 + j, none⟩ = some u := fun j u hj hu => slotRow_cell (row_own S4.2.1.2.1) rfl q _ hx j u hj hu
      have g0 : v4.cell? ⟨gd, q * 6, none⟩ = some (.int .i64 x.level) := CE 0 _ (by omega) rfl
      have g1 : v4.cell? ⟨gd, q * 6 + 1, none⟩ = some (.int .u64 x.tag) := CE 1 _ (by omega) rfl
      have g2 : v4.cell? ⟨gd, q * 6 + 2, none⟩ = some (.int .u64 x.asid) := CE 2 _ (by omega) rfl
      have g3 : v4.cell? ⟨gd, q * 6 + 3, none⟩ = some (.bool x.glob) := CE 3 _ (by omega) rfl
      have g4 : v4.cell? ⟨gd, q * 6 + 4, none⟩ = some (.bool x.valid) := CE 4 _ (by omega) rfl
      have g5 : v4.cell? ⟨gd, q * 6 + 5, none⟩ = some (.int .u64 x.pte) := CE 5 _ (by omega) rfl
      have HTL : Hid (∀ u : World, Calls Tryz.prog 109 #[.int .u64 x.pte, .int .i64 x.level, .agg #[.int .i64 mode, .bool sum, .bool mxr, .int .u64 satp], .int .i64 kind, .int .u64 va] u fun e w' => e = .returned (.tuple #[.int .u64 (if grantM x.pte kind mode sum mxr = true then physM x.pte x.level va else 0), faultV (if grantM x.pte kind mode sum mxr = true then 1 else 2)]) ∧ Below u.heap.size u w') := fun u => throughLeaf_any x.pte x.level mode sum mxr satp kind va u hok.2.2.2.1 hok.2.2.2.2 hv0 hv1 (by omega)
      clear CE p2 hres hx hxv
      have n5 := (Below.refl v4.heap.size v4).alloc (Nat.le_refl _) (Obj.cells #[.int .i64 x.level, .int .u64 x.tag, .int .u64 x.asid, .bool x.glob, .bool x.valid, .int .u64 x.pte] 211)
      have lw : w.heap.size < v4.heap.size := (Array.getElem?_eq_some_iff.1 H4.out).1
      go_wp2_with fail
      generalize v4.alloc (Obj.cells #[.int .i64 x.level, .int .u64 x.tag, .int .u64 x.asid, .bool x.glob, .bool x.valid, .int .u64 x.pte] 211) = v5 at n5 ⊢
      refine (HTL.out v5).mono ?_
      have A5 := Below.step A4 n5 (Nat.le_refl _)
      by_cases hgr : grantM x.pte kind mode sum mxr = true
      · rw [if_pos hgr, if_pos hgr, show faultV 1 = .nilIface from rfl]
        rintro e v6 ⟨rfl, N6⟩
        have A6 := Below.step A5 N6 (Nat.le_refl _)
        go_wp2_with fail
        refine bodyPost_ret (v := .tuple #[.int .u64 (physM x.pte x.level va), .nilIface]) (by simp [results, Tryz.results57, go_sem]) rfl ⟨_, 1, rfl, .inl rfl, ?_, ?_, Keeps.of_below _ _ _ A6⟩
        · rw [HRes.out]
          simp [leafM, hgr]
        · rw [HRes.out]
          exact HS.out.keep A6
      · rw [if_neg hgr, if_neg hgr, show faultV 2 = .iface 203 (.agg #[]) from rfl]
        rintro e v6 ⟨rfl, N6⟩
        have A6 := Below.step A5 N6 (Nat.le_refl _)
        go_wp2_with fail
        refine bodyPost_ret (v := .tuple #[.int .u64 0, .iface 203 (.agg #[])]) (by simp [results, Tryz.results57, go_sem]) rfl ⟨0, 2, rfl, .inr (.inl rfl), ?_, ?_, Keeps.of_below _ _ _ A6⟩
        · rw [HRes.out]
          simp [leafM, hgr]
        · rw [HRes.out]
          exact HS.out.keep A6

end Go.Proofs.YthekickjjaleaacGreat
