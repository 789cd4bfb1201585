import Derived.Test.YthekickjjaleaacPack24
import Derived.Test.YthekickjjaleaacPack11
import Derived.Test.YthekickjjaleaacPack17
/- The law FnExactValidHart: its walk. -/
namespace Go.Proofs.Ythekickjjaleaac
open Go.RowKit
set_option linter.unusedVariables false
attribute [local go_sem ↓] Go.wp_at_zero Go.wp_at_succ

theorem HartArg.keep {w w' : World} {p : PtrM} {h : HartM} (k : HartArg w p h) (hb : Below w.heap.size w w') : HartArg w' p h :=
  ⟨k.mem.keep hb, k.regs.keep hb, ⟨k.t1.1.keep hb, k.t1.2⟩, ⟨k.t2.1.keep hb, k.t2.2⟩, ⟨k.t3.1.keep hb, k.t3.2⟩⟩

theorem hart_put (v : World) (V : Array Value) (hs : V.size = 21) (h1 : V.all (·.oneCell') = true) :
    ∃ v', (Instr.storeAt 31 (.pointer (some ⟨v.heap.size, 0, none⟩)) (.agg V)).run Try.prog (v.alloc (Obj.cells zhartA 31)) = .ok () v' ∧ v'.heap[v.heap.size]? = some (.cells V 31 (0, 0)) ∧ v.heap.size < v'.heap.size ∧ Below v.heap.size v v' := by
  have a := alloc1 v zhartA 31
  refine ⟨_, box_put (P := Try.prog) (T := 31) a.1 (by rw [hs]; exact hartI) (by rw [hs]; rfl) h1, box_putH a.1 (by rw [hs]; rfl), ?_, ?_⟩
  · rw [size_sets, a.2.1]
    exact Nat.lt_succ_self _
  · exact bel_sets (Nat.le_refl _) _ _ _ a.2.2

theorem box_hart {v : World} {g : Nat} {V : Array Value} (hs : V.size = 21) (h : v.heap[g]? = some (.cells V 31 (0, 0))) : (Instr.loadAt 31 (.pointer (some ⟨g, 0, none⟩))).run Try.prog v = .ok (.agg V) v :=
  box_whole h Try.underlying31 rfl (by rw [hs]; exact hartI)

theorem box_lhart {v : World} {g : Nat} {V : Array Value} (hs : V.size = 21) (h : v.heap[g]? = some (.cells V 48 (0, 0))) : (Instr.loadAt 48 (.pointer (some ⟨g, 0, none⟩))).run Try.prog v = .ok (.agg V) v :=
  box_whole h Try.underlying48 rfl (by rw [hs]; kernel_rfl)

set_option maxRecDepth 20000 in
set_option maxHeartbeats 1600000 in
theorem vh_walk (p : PtrM) (h : HartM) (w : World) (ha : HartArg w p h) (hl : (h.mem.length : Int) ≤ 9223372036854775807 ∧ (h.regs.length : Int) ≤ 9223372036854775807 ∧ (h.k.i.es.length : Int) ≤ 9223372036854775807 ∧ (h.k.d.es.length : Int) ≤ 9223372036854775807 ∧ (h.k.p.es.length : Int) ≤ 9223372036854775807) (hs : 0 ≤ h.satp ∧ h.satp ≤ 18446744073709551615) (ht : 0 ≤ h.tvec) :
    Calls Try.prog 4 #[.agg (hartA p h)] w fun e w' => e = .returned (.bool true) ∧ Below w.heap.size w w' := by
  have F := alloc1 w (hartA p h) 48
  have CZ : Hid (∀ u, Calls Try.prog 13 #[.agg (hartA p h), .int .i64 1048576] u fun e w' => (∃ r : Int, e = .returned (.int .i64 r) ∧ -1 ≤ r ∧ r ≤ 1048576 ∧ (0 ≤ r → HartB h)) ∧ Below u.heap.size u w') := fun u => szHart_any p h u hl.1 hl.2.1 hl.2.2.1 hl.2.2.2.1 hl.2.2.2.2
  have CT : Hid (HartB h → ∀ u, Below w.heap.size w u → Calls Try.prog 15 #[.agg (hartA p h)] u fun e w' => (∃ q, e = .returned (.agg (hartA q h)) ∧ HartIn w' q h) ∧ Below u.heap.size u w') := fun hb u hu => toHart_any p h u (ha.keep hu) hb
  have CS : Hid (∀ q u, HartIn u q h → Calls Try.prog 14 #[.agg (hartA q h)] u fun e w' => e = .returned (.bool (validHM h)) ∧ Below u.heap.size u w') := fun q u hq => specValidHart_any q h u hq hs.1 hs.2 ht
  have CI : Hid (HartB h → ∀ q u, HartIn u q h → Calls Try.prog 16 #[.agg (hartA q h)] u fun e w' => e = .returned (.bool (validHM h)) ∧ Below u.heap.size u w') := fun hb q u hq => implValidHart_any q h u hq hb.m hs.1 hs.2 ht
  have SA : (hartA p h).size = 21 := rfl
  clear ha hl hs ht
  generalize validHM h = V at *
  generalize hartA p h = A at *
  go_enter Try.func4, Try.ntmps4
  go_upto_region 1 with fail
  generalize (w.alloc (Obj.cells A 48)) = u0 at F ⊢
  obtain ⟨f1, hz, nB⟩ := F
  have H1 : Hid _ := f1
  clear f1
  have J : Hid _ := box_lhart SA H1.out
  go_wp2_with (first | ((with_reducible refine wpl_load ?_ J.out ?_); (exact rfl)))
  clear J
  refine (CZ.out u0).mono ?_
  rintro e u1 ⟨⟨r, rfl, r1, r2, r3⟩, k1⟩
  replace nB := Below.step nB k1 (Nat.le_refl _)
  replace H1 := hid_keep H1 k1
  clear k1
  by_cases t : r < 0
  · have d3 : decide (r < 0) = true := by simp; omega
    go_wp2_with fail
    go_ret
    exact ⟨rfl, nB⟩
  have d3 : decide (r < 0) = false := by simp; omega
  have HB : Hid (HartB h) := r3 (by omega)
  clear r3
  have J : Hid _ := box_lhart SA H1.out
  go_wp2_with (first | ((with_reducible refine wpl_load ?_ J.out ?_); (exact rfl)))
  clear J d3
  refine (CT.out HB.out u1 nB).mono ?_
  rintro e u2 ⟨⟨q, rfl, hq⟩, k2⟩
  replace nB := Below.step nB k2 (Nat.le_refl _)
  replace H1 := hid_keep H1 k2
  clear k2
  go_wp2_with fail
  refine (CS.out q u2 hq).mono ?_
  rintro e u3 ⟨rfl, k3⟩
  replace nB := Below.step nB k3 (Nat.le_refl _)
  replace H1 := hid_keep H1 k3
  clear k3 hq
  have J : Hid _ := box_lhart SA H1.out
  go_wp2_with (first | ((with_reducible refine wpl_load ?_ J.out ?_); (exact rfl)))
  clear J
  refine (CT.out HB.out u3 nB).mono ?_
  rintro e u4 ⟨⟨x, rfl, hx⟩, k4⟩
  replace nB := Below.step nB k4 (Nat.le_refl _)
  replace H1 := hid_keep H1 k4
  clear k4
  obtain ⟨u5, hs5, P5, l5, n5⟩ := hart_put u4 (hartA x h) rfl (hart_one _ _)
  have HX : Hid _ := hx.keep n5
  have EI : Hid (∀ u, HartIn u x h → Calls Try.prog 16 #[.agg (hartA x h)] u fun e w' => e = .returned (.bool V) ∧ Below u.heap.size u w') := fun u hu => CI.out HB.out x u hu
  have EE : Hid (∀ u y, HartIn u x h → HartIn u y h → Calls Try.prog 17 #[.agg (hartA x h), .agg (hartA y h)] u fun e w' => e = .returned (.bool true) ∧ Below u.heap.size u w') := fun u y h1 h2 => eqHart_row x y h u h1.row.1 h2.row.1 HB.out
  have SX : (hartA x h).size = 21 := rfl
  generalize hartA x h = X at *
  replace nB := Below.step nB n5 (Nat.le_refl _)
  replace H1 := hid_keep H1 n5
  have HS5 : Hid _ := hs5
  have Q5 : Hid _ := P5
  have J : Hid _ := box_hart SX P5
  clear hs5 P5 n5 hx
  go_wp2_with (first | ((with_reducible refine wpl_store ?_ ?_ HS5.out ?_); (exact rfl); (exact rfl)) | ((with_reducible refine wpl_load ?_ J.out ?_); (exact rfl)))
  clear J HS5
  refine (EI.out u5 HX.out).mono ?_
  rintro e u6 ⟨rfl, k6⟩
  replace nB := Below.step nB k6 (Nat.le_refl _)
  replace H1 := hid_keep H1 k6
  replace Q5 := hid_keep Q5 k6
  replace HX : Hid _ := HX.out.keep k6
  have l6 := k6.size
  clear k6
  have hv : (V != V) = false := by simp
  go_upto_region 10 with fail
  have nD : Below u6.heap.size u6 u6.drew := (Below.refl _ _).drew
  have HL1 : Hid (∀ u : World, (u.heap[w.heap.size]? = some (.cells A 48 (0, 0)) ∧ u.heap[u4.heap.size]? = some (.cells X 31 (0, 0))) → (Instr.loadAt 48 (.pointer (some ⟨w.heap.size, 0, none⟩))).run Try.prog u = .ok (.agg A) u) := fun u hu => box_lhart SA hu.1
  have HL2 : Hid (∀ u : World, (u.heap[w.heap.size]? = some (.cells A 48 (0, 0)) ∧ u.heap[u4.heap.size]? = some (.cells X 31 (0, 0))) → (Instr.loadAt 31 (.pointer (some ⟨u4.heap.size, 0, none⟩))).run Try.prog u = .ok (.agg X) u) := fun u hu => box_hart SX hu.2
  have HBo : Hid (∀ u : World, Below u6.heap.size u6 u → (u.heap[w.heap.size]? = some (.cells A 48 (0, 0)) ∧ u.heap[u4.heap.size]? = some (.cells X 31 (0, 0)))) := fun u hu => ⟨(hid_keep H1 hu).out, (hid_keep Q5 hu).out⟩
  have hF := HBo.out u6.drew nD
  refine wp_region_until (fun u => u.heap[w.heap.size]? = some (.cells A 48 (0, 0)) ∧ u.heap[u4.heap.size]? = some (.cells X 31 (0, 0))) 4 (by kernel_rfl) ?_
  refine anyU_take 0 22 (.agg X) rfl (by kernel_rfl) (by kernel_rfl) (by kernel_rfl) (by kernel_rfl) rfl (by kernel_rfl) (fun _ _ _ h => h) (by kernel_rfl) (fun u hu => exec_load rfl (HL2.out u hu)) hF (by kernel_rfl) ?_
  simp only [Act.put, List.setIfInBounds_toArray, List.set_cons_succ, List.set_cons_zero]
  refine anyU_take 1 23 (.agg A) rfl (by kernel_rfl) (by kernel_rfl) (by kernel_rfl) (by kernel_rfl) rfl (by kernel_rfl) (fun _ _ _ h => h) (by kernel_rfl) (fun u hu => exec_load rfl (HL1.out u hu)) hF (by kernel_rfl) ?_
  simp only [Act.put, List.setIfInBounds_toArray, List.set_cons_succ, List.set_cons_zero]
  refine anyU_call 2 24 (by kernel_rfl) rfl (by kernel_rfl) (by kernel_rfl) (f := 15) (args := #[.agg A]) (by kernel_rfl) ?_
  refine (CT.out HB.out u6.drew (Below.step nB nD (Nat.le_refl _))).mono ?_
  rintro e u7 ⟨⟨y, rfl, hy⟩, k7⟩
  have m7 : Below u6.heap.size u6 u7 := Below.step nD k7 (Nat.le_refl _)
  refine ⟨_, rfl, fun _ => HBo.out u7 m7, ?_⟩
  simp only [Act.put, List.setIfInBounds_toArray, List.set_cons_succ, List.set_cons_zero]
  have HE : Hid (Calls Try.prog 17 #[.agg X, .agg (hartA y h)] u7 fun e w' => e = .returned (.bool true) ∧ Below u7.heap.size u7 w') := EE.out u7 y (HX.out.keep m7) hy
  generalize hartA y h = Y at *
  refine anyU_call 3 25 (by kernel_rfl) rfl (by kernel_rfl) (by kernel_rfl) (f := 17) (args := #[.agg X, .agg Y]) (by kernel_rfl) ?_
  refine HE.out.mono ?_
  rintro e u8 ⟨rfl, k8⟩
  have m8 : Below u6.heap.size u6 u8 := Below.step m7 k8 (Nat.le_refl _)
  refine ⟨_, rfl, fun _ => HBo.out u8 m8, ?_⟩
  simp only [Act.put, List.setIfInBounds_toArray, List.set_cons_succ, List.set_cons_zero]
  refine anyU_val 4 26 (.bool false) (w' := u8) (by kernel_rfl) rfl (by kernel_rfl) (by kernel_rfl) (by go_simp) (fun _ => HBo.out u8 m8) ?_
  simp only [Act.put, List.setIfInBounds_toArray, List.set_cons_succ, List.set_cons_zero]
  refine anyU_done (by kernel_rfl) ?_ _
  have nE := Below.step nB m8 (Nat.le_refl _)
  go_wp2_with fail
  go_ret
  exact ⟨rfl, nE⟩

end Go.Proofs.Ythekickjjaleaac

/- An argument of type Hart, opened. -/
namespace Go.Proofs.Ythekickjjaleaac
open Go.RowKit Go.Joins Go.ChangeShapes Go.WideShapes Go.ChangeAt
set_option linter.unusedVariables false

theorem cellsH : Try.prog.cellsOf 48 = 21 := by kernel_rfl

theorem array21 {α : Type} {cs : Array α} (h : cs.size = 21) : ∃ c0 c1 c2 c3 c4 c5 c6 c7 c8 c9 c10 c11 c12 c13 c14 c15 c16 c17 c18 c19 c20, cs = #[c0, c1, c2, c3, c4, c5, c6, c7, c8, c9, c10, c11, c12, c13, c14, c15, c16, c17, c18, c19, c20] := by
  obtain ⟨l⟩ := cs
  match l, h with
  | [c0, c1, c2, c3, c4, c5, c6, c7, c8, c9, c10, c11, c12, c13, c14, c15, c16, c17, c18, c19, c20], _ => exact ⟨c0, c1, c2, c3, c4, c5, c6, c7, c8, c9, c10, c11, c12, c13, c14, c15, c16, c17, c18, c19, c20, rfl⟩

section
variable {H : Type} {enc : TypeId × Value → H} {w : World} {base : Nat} {spare : Nat → Bool} {held : Bool} {fuel : Nat} {v : Value} {x : DataW H × List MemPlace}

theorem bytes_open (h : DataW.trod enc Try.prog w base spare held fuel 22 [v] = some x) : ∃ a cap zs, v = .slice a zs.length cap ∧ Byt w a zs.length zs ∧ zs.length ≤ cap ∧ (cap : Int) ≤ 9223372036854775807 := by
  rcases open_ints Try.underlying22 Try.underlying5 (by kernel_rfl) h with ⟨hcs, _⟩ | ⟨a, len, cap, zs, hcs, _, hl, hm, hz, _, hcell, hwz⟩
  · simp at hcs
    subst hcs
    exact ⟨none, 0, [], rfl, ⟨rfl, fun i => by simp, .inl rfl⟩, Nat.le_refl _, by simp⟩
  · simp at hcs
    subst hcs
    have hlz : len ≤ zs.length := by rw [hz]; split <;> omega
    have hlen : (zs.take len).length = len := by rw [List.length_take]; omega
    refine ⟨some a, cap, zs.take len, by rw [hlen], ?_, by rw [hlen]; exact hl, by unfold maxLen at hm; omega⟩
    rw [hlen]
    refine ⟨hlen, fun i => ?_, ?_⟩
    · by_cases hi : i < len
      · rw [List.getElem?_take_of_lt hi]
        have hi' : i < zs.length := by omega
        have := bounds_u8 (hwz zs[i] (List.getElem_mem hi'))
        rw [List.getElem?_eq_getElem hi']
        exact this
      · rw [List.getElem?_eq_none (by rw [hlen]; omega)]
        simp
    · by_cases h0 : len = 0
      · exact .inl h0
      · obtain ⟨b, off, spot⟩ := a
        have hc := hcell 0 (by omega)
        have hspot : spot = none := by simpa [Addr.add] using World.cell?_spot hc
        subst hspot
        refine .inr ⟨b, off, rfl, ?_, fun i hi => ?_⟩
        · have hc0 : w.cell? ⟨b, off, none⟩ = some (.int .u8 (zs.getD 0 0)) := by simpa [Addr.add] using hc
          unfold World.cell? at hc0
          split at hc0
          · next he => exact (Array.getElem?_eq_some_iff.1 he).1
          · cases hc0
        · have := hcell i (by omega)
          rw [add_at] at this
          rw [this, List.getElem?_take_of_lt hi, List.getD_eq_getElem?_getD]

theorem nums_open (h : DataW.trod enc Try.prog w base spare held fuel 23 [v] = some x) : ∃ a cap zs, v = .slice a zs.length cap ∧ RowC w a zs.length 1 (numsC zs) ∧ zs.length ≤ cap ∧ (cap : Int) ≤ 9223372036854775807 := by
  rcases open_ints Try.underlying23 Try.underlying24 (by kernel_rfl) h with ⟨hcs, _⟩ | ⟨a, len, cap, zs, hcs, _, hl, hm, hz, _, hcell, hwz⟩
  · simp at hcs
    subst hcs
    exact ⟨none, 0, [], rfl, RowC.nil _ _ _, Nat.le_refl _, by simp⟩
  · simp at hcs
    subst hcs
    have hlz : len ≤ zs.length := by rw [hz]; split <;> omega
    have hlen : (zs.take len).length = len := by rw [List.length_take]; omega
    refine ⟨some a, cap, zs.take len, by rw [hlen], ?_, by rw [hlen]; exact hl, by unfold maxLen at hm; omega⟩
    rw [hlen]
    refine ⟨by rw [numsC_ln, hlen]; omega, ?_⟩
    by_cases h0 : len = 0
    · exact .inl h0
    · obtain ⟨b, off, spot⟩ := a
      have hc := hcell 0 (by omega)
      have hspot : spot = none := by simpa [Addr.add] using World.cell?_spot hc
      subst hspot
      refine .inr ⟨b, off, rfl, ?_, fun i u hu => ?_⟩
      · have hc0 : w.cell? ⟨b, off, none⟩ = some (.int .u64 (zs.getD 0 0)) := by simpa [Addr.add] using hc
        unfold World.cell? at hc0
        split at hc0
        · next he => exact (Array.getElem?_eq_some_iff.1 he).1
        · cases hc0
      · have hi : i < len := by
          have := (List.getElem?_eq_some_iff.1 hu).1
          rw [numsC_ln, hlen] at this
          exact this
        have := hcell i (by omega)
        rw [add_at] at this
        rw [this]
        rw [numsC, List.getElem?_map, List.getElem?_take_of_lt hi, List.getElem?_eq_getElem (show i < zs.length by omega)] at hu
        simp at hu
        subst hu
        simp [List.getD_eq_getElem?_getD, List.getElem?_eq_getElem (show i < zs.length by omega)]

end

theorem hart_get {H : Type} {xs : List (DataW H × List MemPlace)} {i : Nat} (hl : xs.length = 13) (hi : i < 13) : xs[i]? = some (xs[i]'(by omega)) := List.getElem?_eq_getElem (by omega)

set_option maxRecDepth 100000 in
theorem hart_open {H : Type} {enc : TypeId × Value → H} {w : World} {base b0 : Nat} {spare : Nat → Bool} {held : Bool} {r : Reach} {v : Value} {d : DataW H} {p : List MemPlace}
    (hv : Value.okWide Try.prog w r b0 48 v) (h : DataW.Trod enc Try.prog w base spare held 48 v d p) :
    ∃ (q : PtrM) (h : HartM), v = .agg (hartA q h) ∧ HartArg w q h ∧ ((h.mem.length : Int) ≤ 9223372036854775807 ∧ (h.regs.length : Int) ≤ 9223372036854775807 ∧ (h.k.i.es.length : Int) ≤ 9223372036854775807 ∧ (h.k.d.es.length : Int) ≤ 9223372036854775807 ∧ (h.k.p.es.length : Int) ≤ 9223372036854775807) ∧ (0 ≤ h.satp ∧ h.satp ≤ 18446744073709551615) ∧ 0 ≤ h.tvec := by
  obtain ⟨cs, rfl, hsz⟩ := okWide_struct Try.underlying48 hv
  obtain ⟨q0, q1, q2, q3, q4, q5, q6, q7, q8, q9, q10, q11, q12, q13, q14, q15, q16, q17, q18, q19, q20, rfl⟩ := array21 (hsz.trans cellsH)
  obtain ⟨fuel, hf⟩ := h
  obtain ⟨xs, n, _, _, _, hlen, hx⟩ := DataW.trod_struct Try.underlying48 hf
  replace hlen : xs.length = 13 := hlen
  have h0 : DataW.trod enc Try.prog w base spare held n 22 [q0] = _ := (hx 0 _ rfl).trans (hart_get hlen (by omega))
  have h1 : DataW.trod enc Try.prog w base spare held n 23 [q1] = _ := (hx 1 _ rfl).trans (hart_get hlen (by omega))
  have h2 : DataW.trod enc Try.prog w base spare held n 24 [q2] = _ := (hx 2 _ rfl).trans (hart_get hlen (by omega))
  have h3 : DataW.trod enc Try.prog w base spare held n 2 [q3] = _ := (hx 3 _ rfl).trans (hart_get hlen (by omega))
  have h4 : DataW.trod enc Try.prog w base spare held n 4 [q4] = _ := (hx 4 _ rfl).trans (hart_get hlen (by omega))
  have h5 : DataW.trod enc Try.prog w base spare held n 4 [q5] = _ := (hx 5 _ rfl).trans (hart_get hlen (by omega))
  have h6 : DataW.trod enc Try.prog w base spare held n 24 [q6] = _ := (hx 6 _ rfl).trans (hart_get hlen (by omega))
  have h7 : DataW.trod enc Try.prog w base spare held n 24 [q7] = _ := (hx 7 _ rfl).trans (hart_get hlen (by omega))
  have h8 : DataW.trod enc Try.prog w base spare held n 24 [q8] = _ := (hx 8 _ rfl).trans (hart_get hlen (by omega))
  have h9 : DataW.trod enc Try.prog w base spare held n 2 [q9] = _ := (hx 9 _ rfl).trans (hart_get hlen (by omega))
  have h10 : DataW.trod enc Try.prog w base spare held n 2 [q10] = _ := (hx 10 _ rfl).trans (hart_get hlen (by omega))
  have h11 : DataW.trod enc Try.prog w base spare held n 24 [q11] = _ := (hx 11 _ rfl).trans (hart_get hlen (by omega))
  have h12 : DataW.trod enc Try.prog w base spare held n 46 [q12, q13, q14, q15, q16, q17, q18, q19, q20] = _ := (hx 12 _ rfl).trans (hart_get hlen (by omega))
  obtain ⟨a0, c0, zs, rfl, m1, m2, m3⟩ := bytes_open h0
  obtain ⟨a1, c1, ys, rfl, r1, r2, r3⟩ := nums_open h1
  obtain ⟨i2, f2, _, w2⟩ := DataW.trod_int Try.underlying24 h2
  obtain ⟨i3, f3, _, w3⟩ := DataW.trod_int Try.underlying2 h3
  obtain ⟨i4, f4, _⟩ := DataW.trod_bool Try.underlying4 h4
  obtain ⟨i5, f5, _⟩ := DataW.trod_bool Try.underlying4 h5
  obtain ⟨i6, f6, _, w6⟩ := DataW.trod_int Try.underlying24 h6
  obtain ⟨i7, f7, _, w7⟩ := DataW.trod_int Try.underlying24 h7
  obtain ⟨i8, f8, _, w8⟩ := DataW.trod_int Try.underlying24 h8
  obtain ⟨i9, f9, _, w9⟩ := DataW.trod_int Try.underlying2 h9
  obtain ⟨i10, f10, _, w10⟩ := DataW.trod_int Try.underlying2 h10
  obtain ⟨i11, f11, _, w11⟩ := DataW.trod_int Try.underlying24 h11
  simp at f2 f3 f4 f5 f6 f7 f8 f9 f10 f11
  subst f2 f3 f4 f5 f6 f7 f8 f9 f10 f11
  obtain ⟨y0, y1, y2, n', _, _, t0, t1, t2⟩ := Go.Deep.trod_struct3 Try.underlying46 h12
  have t0' : DataW.trod enc Try.prog w base spare held n' 44 [q12, q13, q14] = some y0 := t0
  have t1' : DataW.trod enc Try.prog w base spare held n' 44 [q15, q16, q17] = some y1 := t1
  have t2' : DataW.trod enc Try.prog w base spare held n' 44 [q18, q19, q20] = some y2 := t2
  obtain ⟨ti, b1, d1, e1, k1⟩ := tlb_cells t0'
  obtain ⟨td, b2, d2, e2, k2⟩ := tlb_cells t1'
  obtain ⟨tp, b3, d3, e3, k3⟩ := tlb_cells t2'
  simp only [List.cons.injEq, and_true] at e1 e2 e3
  obtain ⟨rfl, rfl, rfl⟩ := e1
  obtain ⟨rfl, rfl, rfl⟩ := e2
  obtain ⟨rfl, rfl, rfl⟩ := e3
  have l1 := k1.2.2.2.2
  have l2 := k2.2.2.2.2
  have l3 := k3.2.2.2.2
  exact ⟨⟨a0, c0, a1, c1, b1, d1, b2, d2, b3, d3⟩, ⟨zs, ys, i2, i3, i4, i5, i6, i7, i8, i9, i10, i11, ⟨ti, td, tp⟩⟩, rfl, ⟨m1, r1, k1, k2, k3⟩, ⟨by show (zs.length : Int) ≤ _; omega, by show (ys.length : Int) ≤ _; omega, by show (ti.es.length : Int) ≤ _; omega, by show (td.es.length : Int) ≤ _; omega, by show (tp.es.length : Int) ≤ _; omega⟩, bounds_u64 w6, (bounds_u64 w7).1⟩

end Go.Proofs.Ythekickjjaleaac
