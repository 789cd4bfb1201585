/- The program's find, for one kind of cache. Written by mk4.py. -/
import Derived.Test.YtgdcghpanaljdabSetP
import Derived.Test.YtgdcghpanaljdabImpl4f
import Derived.Test.YtgdcghpanaljdabSlots2
import Derived.Deep.DeepCutAuto
namespace Go.Proofs.Ytgdcghpanaljdab
open Go.RowKit
set_option linter.unusedVariables false
attribute [local go_sem ↓] Go.wp_at_zero Go.wp_at_succ

set_option maxRecDepth 20000 in
set_option maxHeartbeats 3200000 in
theorem findP_any (b o g n : Nat) (t : TlbM) (va asid : Int) (w : World) (hn : t.es.length = n) (hn1 : n ≤ 1048576) (hv : validM t true = true) (hbl : b < w.heap.size)
    (c0 : w.cell? ⟨b, o, none⟩ = some (.int .i64 t.sets)) (c1 : w.cell? ⟨b, o + 1, none⟩ = some (.int .i64 t.ways)) (c2 : w.cell? ⟨b, o + 2, none⟩ = some (.slice (some ⟨g, 0, none⟩) n n)) (hr : RowC w (some ⟨g, 0, none⟩) n 6 (slotsC t.es)) (hv0 : 0 ≤ va) (hv1 : va ≤ 18446744073709551615) :
    Calls Try.prog 141 #[.pointer (some ⟨b, o, none⟩), .int .u64 va, .int .u64 asid] w fun e w' => e = .returned (.tuple #[.int .i64 (hitM t va asid).2.1, .bool (hitM t va asid).1]) ∧ Below w.heap.size w w' := by
  obtain ⟨hs4, hw1, hw4, hnw⟩ := shape_at hv
  have HV : Hid (validM t true = true) := hv
  have HEi : Hid (eitherM t = true) := either_of hv
  have HR : Hid (RowC w (some ⟨g, 0, none⟩) n 6 (slotsC t.es)) := hr
  have HN : Hid (t.es.length = n) := hn
  have HNw : Hid ((n : Int) = t.sets * t.ways) := by show _ = _; rw [← hn]; exact hnw
  obtain ⟨X, hX⟩ : ∃ X, hitM t va asid = X := ⟨_, rfl⟩
  have HX : Hid (hitM t va asid = X) := hX
  rw [hX]
  clear hX hv hr hnw hn
  obtain ⟨sets, ways, es⟩ := t
  simp only at *
  go_enter Try.func141, Try.ntmps141
  go_wp2_with fail
  go_loopw [12] (fun i wr => ∃ l : Nat, l ≤ 3 ∧ i = .int .i64 l ∧ Hid (∀ l' : Nat, l' < l → findL va asid l' 0 es = none) ∧ Below w.heap.size w wr) (fun i _ => 3 - (intOf i).toNat)
  case atStart => exact ⟨0, by omega, rfl, fun l' h => absurd h (by omega), Below.refl _ _⟩
  case round =>
    obtain ⟨l, hl, rfl, HF, hb⟩ := hrel
    by_cases hlt : l < 3
    · have hl3 : (l : Int) = 0 ∨ (l : Int) = 1 ∨ (l : Int) = 2 := by omega
      obtain ⟨tm, htm⟩ : ∃ tm, tagM va l = tm := ⟨_, rfl⟩
      have htb := tagM_lim va l hl3
      rw [htm] at htb
      obtain ⟨sx, hsx⟩ : ∃ sx, tm % sets = sx := ⟨_, rfl⟩
      have hsb : 0 ≤ sx ∧ sx < sets := by rw [← hsx]; exact ⟨Int.emod_nonneg _ (by omega), Int.emod_lt_of_pos _ (by omega)⟩
      obtain ⟨f, hf⟩ : ∃ f : Nat, (f : Int) = sx * ways := ⟨(sx * ways).toNat, Int.toNat_of_nonneg (Int.mul_nonneg hsb.1 (by omega))⟩
      have hfn : (f : Int) + ways ≤ n := by
        rw [HNw.out, hf]
        have : (sx + 1) * ways ≤ sets * ways := Int.mul_le_mul_of_nonneg_right (by omega) (by omega)
        rw [Int.add_mul, Int.one_mul] at this
        exact this
      have HFi : Hid ((f : Int) = tagM va l % sets * ways) := by show _ = _; rw [htm, hsx]; exact hf
      have HWm : Hid (sx * ways = (f : Int)) := hf.symm
      have r0 : wr.cell? ⟨b, o, none⟩ = some (.int .i64 sets) := Below.cell2 hb c0 hbl
      have r1 : wr.cell? ⟨b, o + 1, none⟩ = some (.int .i64 ways) := Below.cell2 hb c1 hbl
      have HTg : Hid (∀ u, Calls Try.prog 154 #[.int .u64 va, .int .i64 l] u fun e w' => e = .returned (.int .u64 tm) ∧ ∃ q, w' = u.drewN q) := fun u => by
        have := tag_at va l u hv0 hv1 hl3
        rw [htm] at this
        exact this
      have HSt : Hid (∀ q, Calls Try.prog 135 #[.pointer (some ⟨b, o, none⟩), .int .u64 tm] (wr.drewN q) fun e w' => e = .returned (.int .i64 sx) ∧ w' = wr.drewN q) := fun q => by
        have := setOfP_at b o sets tm (wr.drewN q) hs4 r0 htb.1 (by omega)
        rw [hsx] at this
        exact this
      clear htm hsx
      go_wp2_with fail
      go_cut [9] (fun s9 wx => s9 = .int .i64 f ∧ ∃ q, wx = wr.drewN q)
      case first =>
        go_quiet (first
          | (go_at_call 154; exact Calls.quiet_of (HTg.out _))
          | (go_at_call 135; exact Calls.quiet_of_same (HSt.out _)))
        go_wp2_with fail
        go_meet
        exact ⟨by rw [HWm.out], nq, rfl⟩
      case rest =>
        obtain ⟨rfl, q, rfl⟩ := hcut
        have hb2 : Below w.heap.size w (wr.drewN q) := below_drewN hb q
        generalize wr.drewN q = v2 at hb2 ⊢
        clear r0 r1 hb HTg HSt HWm hsb hf
        go_wp2_with fail
        rename_i wr0
        go_loopw [10] (fun i wr => ∃ q : Nat, f ≤ q ∧ (q : Int) ≤ f + ways ∧ i = .int .i64 q ∧ Hid (∀ (q' : Nat) x, f ≤ q' → q' < q → es[q']? = some x → hitB va asid l x = false) ∧ Below w.heap.size w wr) (fun i _ => f + 4 - (intOf i).toNat)
        case atStart => exact ⟨f, Nat.le_refl _, by omega, rfl, fun q' x h h' => absurd h' (by omega), hb2⟩
        case round =>
          obtain ⟨q, hq1, hq2, rfl, HQ, hb3⟩ := hrel
          have r1 : wr.cell? ⟨b, o + 1, none⟩ = some (.int .i64 ways) := Below.cell2 hb3 c1 hbl
          have r2 : wr.cell? ⟨b, o + 2, none⟩ = some (.slice (some ⟨g, 0, none⟩) n n) := Below.cell2 hb3 c2 hbl
          by_cases hqt : (q : Int) < f + ways
          · have hqn : q < n := by omega
            obtain ⟨⟨vv, lv, tg, asd, gl, pt⟩, hx⟩ : ∃ x, es[q]? = some x := ⟨_, List.getElem?_eq_getElem (by rw [HN.out]; exact hqn)⟩
            have HXq : Hid (es[q]? = some ⟨vv, lv, tg, asd, gl, pt⟩) := hx
            have CE : ∀ j u, j < 6 → (slotC ⟨vv, lv, tg, asd, gl, pt⟩)[j]? = some u → wr.cell? ⟨g, q * 6 + j, none⟩ = some u := fun j u hj hu => slotRow_cell (HR.out.keep hb3) HN.out q _ hx j u hj hu
            have g0 : wr.cell? ⟨g, q * 6, none⟩ = some (.int .i64 lv) := CE 0 _ (by omega) rfl
            have g1 : wr.cell? ⟨g, q * 6 + 1, none⟩ = some (.int .u64 tg) := CE 1 _ (by omega) rfl
            have g2 : wr.cell? ⟨g, q * 6 + 2, none⟩ = some (.int .u64 asd) := CE 2 _ (by omega) rfl
            have g3 : wr.cell? ⟨g, q * 6 + 3, none⟩ = some (.bool gl) := CE 3 _ (by omega) rfl
            have g4 : wr.cell? ⟨g, q * 6 + 4, none⟩ = some (.bool vv) := CE 4 _ (by omega) rfl
            have HNx : Hid (hitB va asid l ⟨vv, lv, tg, asd, gl, pt⟩ = false → ∀ (q' : Nat) x, f ≤ q' → q' < q + 1 → es[q']? = some x → hitB va asid l x = false) := fun h q' x h1 h2 h3 => by
              by_cases e : q' = q
              · subst e; rw [HXq.out] at h3; cases h3; exact h
              · exact HQ.out q' x h1 (by omega) h3
            clear CE hx
            cases vv
            · go_wp2_with fail
              go_roundw
              case rel => exact ⟨q + 1, by omega, by omega, by go_num, HNx.out (by simp [hitB, fitsM]), hb3⟩
              case measure => simp [intOf]; omega
            · by_cases hlv : lv = l
              · subst hlv
                obtain ⟨fb, hfb⟩ : ∃ fb, ((tg == tagM va l) && (gl || asd == asid)) = fb := ⟨_, rfl⟩
                have HFt : Hid (∀ u, Calls Try.prog 155 #[.agg #[.int .i64 l, .int .u64 tg, .int .u64 asd, .bool gl], .int .u64 va, .int .u64 asid] u fun e w' => e = .returned (.bool fb) ∧ Below u.heap.size u w') := fun u => by
                  have := fits_any l tg asd va asid gl u hl3 hv0 hv1
                  rw [hfb] at this
                  exact this
                have HHb : Hid (hitB va asid l ⟨true, l, tg, asd, gl, pt⟩ = fb) := by
                  show _ = _
                  rw [← hfb]
                  simp [hitB, fitsM]
                clear hfb
                go_wp2_with fail
                refine (HFt.out wr).mono ?_
                rintro e v5 ⟨rfl, n5⟩
                have A5 := Below.step hb3 n5 (Nat.le_refl _)
                cases fb
                · go_wp2_with fail
                  go_roundw
                  case rel => exact ⟨q + 1, by omega, by omega, by go_num, HNx.out HHb.out, A5⟩
                  case measure => simp [intOf]; omega
                · have hx : X = (true, (q : Int), (l : Int), pt) := by
                    rw [← HX.out]
                    have hfi := find_some (t := ⟨sets, ways, es⟩) (k := q - f) HV.out HFi.out (by simp only; rw [show f + (q - f) = q by omega]; exact HXq.out) HHb.out (fun j y hj hy => HQ.out (f + j) y (by omega) (by omega) hy)
                    rw [show f + (q - f) = q by omega] at hfi
                    exact hitM_at ⟨sets, ways, es⟩ va asid l q _ HEi.out (by omega) HF.out hfi
                  subst hx
                  go_wp2_with fail
                  exact bodyPost_ret (v := .tuple #[.int .i64 q, .bool true]) (by simp [results, Try.results141, go_sem]) rfl ⟨rfl, A5⟩
              · have hlv' : (lv == (l : Int)) = false := by simpa using hlv
                go_wp2_with fail
                go_roundw
                case rel => exact ⟨q + 1, by omega, by omega, by go_num, HNx.out (by simp [hitB, hlv]), hb3⟩
                case measure => simp [intOf]; omega
          · have hqe : (q : Int) = f + ways := by omega
            have hnn : findL va asid l 0 es = none := find_none (t := ⟨sets, ways, es⟩) HV.out HFi.out (fun j x hj hx => HQ.out (f + j) x (by omega) (by simp only at hj; omega) hx)
            have HNn : Hid (findL va asid l 0 es = none) := hnn
            clear hnn
            go_wp2_with fail
            go_roundw
            case rel => exact ⟨l + 1, by omega, by go_num, fun l' hl' => by
              by_cases e : l' = l
              · subst e; exact HNn.out
              · exact HF.out l' (by omega), hb3⟩
            case measure => simp [intOf]; omega
    · have hl3 : l = 3 := by omega
      subst hl3
      have hx : X = (false, 0, 0, 0) := by
        rw [← HX.out]
        exact hitM_none _ va asid HEi.out HF.out
      subst hx
      go_wp2_with fail
      exact bodyPost_ret (v := .tuple #[.int .i64 0, .bool false]) (by simp [results, Try.results141, go_sem]) rfl ⟨rfl, hb⟩

end Go.Proofs.Ytgdcghpanaljdab
