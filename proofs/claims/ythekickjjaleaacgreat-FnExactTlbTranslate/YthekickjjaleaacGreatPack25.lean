import Derived.Test.YthekickjjaleaacGreatPack23
import Derived.Test.YthekickjjaleaacGreatPack18
import Derived.Test.YthekickjjaleaacGreatPack24
import Derived.Test.YthekickjjaleaacGreatPack05
import Derived.StillTailTactics
import Derived.Deep.DeepCutAuto
import Derived.Deep.RegionHeld3
import Derived.Test.YthekickjjaleaacGreatPack06
import Derived.Laws.CopyRow
import Derived.Laws.CopyOwn
import Derived.Test.YthekickjjaleaacGreatPack07
import Derived.Test.YthekickjjaleaacGreatPack08
import Derived.BigRegion
/- The program's walk with caches: leaves, pointers, walkOn. -/
namespace Go.Proofs.YthekickjjaleaacGreat
open Go.RowKit
set_option linter.unusedVariables false

theorem leaves_at (b : Nat) (kind : Int) (w : World) :
    Calls Tryz.prog 105 #[.pointer (some ⟨b, 0, none⟩), .int .i64 kind] w fun e w' => e = .returned (.pointer (some ⟨b, if kind = 0 then 0 else 3, none⟩)) ∧ w' = w := by
  by_cases h : kind = 0
  · subst h
    go_enter Tryz.func105, Tryz.ntmps105
    go_wp2_with fail
    go_ret
    exact ⟨rfl, rfl⟩
  · rw [if_neg h]
    go_enter Tryz.func105, Tryz.ntmps105
    go_wp2_with fail
    go_ret
    exact ⟨rfl, rfl⟩

theorem pointers_zero (lv : Int) (ra : Option Addr) (n rc : Nat) (w : World) :
    Calls Tryz.prog 157 #[.agg #[.int .i64 lv, .int .u64 0, .slice ra n rc]] w fun e w' => e = .returned (.slice ra n rc) ∧ Below w.heap.size w w' := by
  have n1 := (Below.refl w.heap.size w).alloc (Nat.le_refl _) (Obj.cells #[.int .i64 lv, .int .u64 0, .slice ra n rc] 264)
  go_enter Tryz.func157, Tryz.ntmps157
  go_wp2_with fail
  go_ret
  exact ⟨rfl, n1⟩

theorem pointers_leaf (lv lf : Int) (g n rc : Nat) (w : World) (h : lf ≠ 0) (hn : n ≤ 3) (hn1 : n + 1 ≤ rc) (hrc : rc ≤ 9223372036854775807) :
    Calls Tryz.prog 157 #[.agg #[.int .i64 lv, .int .u64 lf, .slice (some ⟨g, 0, none⟩) (n + 1) rc]] w fun e w' => e = .returned (.slice (some ⟨g, 0, none⟩) n rc) ∧ Below w.heap.size w w' := by
  have n1 := (Below.refl w.heap.size w).alloc (Nat.le_refl _) (Obj.cells #[.int .i64 lv, .int .u64 lf, .slice (some ⟨g, 0, none⟩) (n + 1) rc] 264)
  have h' : (lf == 0) = false := by simpa using h
  go_enter Tryz.func157, Tryz.ntmps157
  go_wp2_with fail
  go_ret
  exact ⟨by simp, n1⟩

set_option maxRecDepth 20000 in
set_option maxHeartbeats 3200000 in
theorem walkOn_any (b base gi gd gp : Nat) (k : KM) (sv : Value) (zs : List Int) (satp va : Int) (w : World) (hS : SetAt w b base gi gd gp k) (hk : validM k.p true = true) (hko : ∀ e ∈ k.p.es, entOk e) (hkl : k.p.es.length ≤ 1048576)
    (hB : SrcAt w sv zs) (hv0 : 0 ≤ va) (hv1 : va ≤ 18446744073709551615) (hr0 : 0 ≤ satp) (hr1 : satp ≤ 18446744073709551615) :
    Calls Tryz.prog 156 #[.pointer (some ⟨b, 0, none⟩), sv, .int .u64 satp, .int .u64 va] w fun e w' => FromAt w.heap.size w' e (resumeM zs satp va (hitM k.p va (asidM satp))) ∧ Below w.heap.size w w' := by
  have HS : Hid (SetAt w b base gi gd gp k) := hS
  have HB : Hid (SrcAt w sv zs) := hB
  have hb := hS.lt
  obtain ⟨⟨f, i, l, pt⟩, hX⟩ : ∃ X, hitM k.p va (asidM satp) = X := ⟨_, rfl⟩
  have HX : Hid (hitM k.p va (asidM satp) = (f, i, l, pt)) := hX
  have HGet : Hid (f = true → ∃ (q : Nat) (x : EntM), k.p.es[q]? = some x ∧ i = (q : Int) ∧ l = x.level ∧ pt = x.pte ∧ (x.level = 1 ∨ x.level = 2)) := fun hf => by
    obtain ⟨q, x, h1, h2, h3, h4, _, h6⟩ := hit_get k.p va (asidM satp) (by rw [hX]; exact hf)
    rw [hX] at h2 h3 h4
    refine ⟨q, x, h1, h2, h3, h4, ?_⟩
    have hp := place_of hk q x h1
    simp only [placeM, Bool.or_eq_true, Bool.and_eq_true, beq_iff_eq] at hp
    rcases hp with hp | hp
    · rw [h6] at hp; simp at hp
    · have hg := hp.1
      simp only [goodEntM, Bool.and_eq_true, decide_eq_true_eq, beq_iff_eq, wantM, if_true] at hg
      have hkd : kindM x.pte x.level = 1 := hg.2
      have hlv := hg.1.1.1.1.1.2
      have hlv2 := hg.1.1.1.1.2
      rcases (show x.level = 0 ∨ x.level = 1 ∨ x.level = 2 by omega) with h0 | h0 | h0
      · rw [h0] at hkd; exact absurd hkd (kindM_zero _)
      · exact .inl h0
      · exact .inr h0
  obtain ⟨R, hR⟩ : ∃ R, resumeM zs satp va (f, i, l, pt) = R := ⟨_, rfl⟩
  have HRs : Hid (resumeM zs satp va (f, i, l, pt) = R) := hR
  rw [hX, hR]
  clear hX hS hB hR
  have n1 := (Below.refl w.heap.size w).alloc (Nat.le_refl _) (Obj.cells #[.int .i64 0, .int .u64 0, .slice none 0 0] 264)
  have H1 : Hid ((w.alloc (Obj.cells #[.int .i64 0, .int .u64 0, .slice none 0 0] 264)).heap[w.heap.size]? = some (.cells #[.int .i64 0, .int .u64 0, .slice none 0 0] 264 (0, 0))) := heap_alloc_new w _
  have l1 : w.heap.size < (w.alloc (Obj.cells #[.int .i64 0, .int .u64 0, .slice none 0 0] 264)).heap.size := by simp
  go_enter Tryz.func156, Tryz.ntmps156
  go_wp2_with fail
  generalize w.alloc (Obj.cells #[.int .i64 0, .int .u64 0, .slice none 0 0] 264) = v1 at n1 H1 l1 ⊢
  have HF : Hid (∀ u : Lies v1, Calls Tryz.prog 189 #[.pointer (some ⟨b, 6, none⟩), .int .u64 va, .int .u64 (asidM satp)] u.w fun e w' => e = .returned (.tuple #[.int .i64 i, .bool f]) ∧ Below u.w.heap.size u.w w') := fun u => by
    have S := HS.out.keep (Below.step n1 u.h (Nat.le_refl _))
    obtain ⟨c0, c1, c2⟩ := S.cellP
    have := findP_any b 6 gp k.p.es.length k.p va (asidM satp) u.w rfl hkl hk S.lt c0 c1 c2 (row_own S.2.1.2.2.1) hv0 hv1
    rw [HX.out] at this
    exact this
  have HA : Hid (∀ u : Lies v1, Calls Tryz.prog 107 #[.int .u64 satp] u.w fun e w' => e = .returned (.int .u64 (asidM satp)) ∧ w' = u.w) := fun u => asidOf_at satp u.w hr0 hr1
  generalize asidM satp = asd at HF HA
  have ne := lies_some v1
  refine wp_region_lies (by kernel_rfl) (by kernel_rfl) ?_
  repeat (go_big_quiet_step ((first
    | (go_at_call 107; exact lies_same _ (HA.out _))
    | (go_at_call 189; exact lies_quiet _ (HF.out _)))))
  refine wpQuiet_nil ?_
  rintro _ ⟨u, rfl⟩
  have n2 := u.h
  generalize u.w = v2 at n2 ⊢
  have H2 := hid_keep H1 n2
  have A2 := Below.step n1 n2 (Nat.le_refl _)
  have l2 : w.heap.size < v2.heap.size := Nat.lt_of_lt_of_le l1 n2.size
  clear n1 n2 H1 ne HF HA
  obtain ⟨⟨d0, d1, d2⟩, e0, e1, e2⟩ := three_cells H2.out
  cases f
  · have hres : R = walkM zs satp va := by rw [← HRs.out]; simp [resumeM]
    go_wp2_with fail
    refine (walkRoot_any sv zs va satp v2 (HB.out.keep A2) hv0 hv1 hr0 hr1).mono ?_
    rw [← hres]
    rintro e v3 ⟨hw, n3⟩
    have H3 := hid_keep H2 n3
    have A3 := Below.step A2 n3 (Nat.le_refl _)
    obtain ⟨ra, rc, rfl, o3⟩ := hw
    clear d0 d1 d2 e0 e1 e2 hres HRs
    obtain ⟨⟨d0, d1, d2⟩, e0, e1, e2⟩ := three_cells H3.out
    go_wp2_with fail
    exact bodyPost_ret (v := .tuple #[.agg #[.int .i64 R.2.1, .int .u64 R.2.2.1, .slice ra R.2.2.2.length rc], faultV R.1]) (by simp [results, Tryz.results156, go_sem, d0, d1, d2]) rfl ⟨⟨ra, rc, rfl, own_low (own_gb o3 (gb3 v3 w.heap.size _ _ _) l2) (by omega)⟩, bel3 A3 (Nat.le_refl _) _ _ _⟩
  · obtain ⟨q, x, hx, rfl, rfl, rfl, hlv⟩ := HGet.out (by trivial)
    have hok := hko x (List.mem_of_getElem? hx)
    have hql : q < k.p.es.length := (List.getElem?_eq_some_iff.1 hx).1
    have S2 := HS.out.keep A2
    obtain ⟨_, _, p2⟩ := S2.cellP
    have p2' : v2.cell? ⟨b, 8, none⟩ = some (.slice (some ⟨gp, 0, none⟩) k.p.es.length k.p.es.length) := p2
    clear p2
    have CE : ∀ j u, j < 6 → (slotC x)[j]? = some u → v2.cell? ⟨gp, q * 6 + j, none⟩ = some u := fun j u hj hu => slotRow_cell (row_own S2.2.1.2.2.1) rfl q _ hx j u hj hu
    have g0 : v2.cell? ⟨gp, q * 6, none⟩ = some (.int .i64 x.level) := CE 0 _ (by omega) rfl
    have g1 : v2.cell? ⟨gp, q * 6 + 1, none⟩ = some (.int .u64 x.tag) := CE 1 _ (by omega) rfl
    have g2 : v2.cell? ⟨gp, q * 6 + 2, none⟩ = some (.int .u64 x.asid) := CE 2 _ (by omega) rfl
    have g3 : v2.cell? ⟨gp, q * 6 + 3, none⟩ = some (.bool x.glob) := CE 3 _ (by omega) rfl
    have g4 : v2.cell? ⟨gp, q * 6 + 4, none⟩ = some (.bool x.valid) := CE 4 _ (by omega) rfl
    have g5 : v2.cell? ⟨gp, q * 6 + 5, none⟩ = some (.int .u64 x.pte) := CE 5 _ (by omega) rfl
    obtain ⟨ll, hsub, hl1⟩ : ∃ ll : Nat, x.level - 1 = (ll : Int) ∧ ll ≤ 1 := by
      rcases hlv with h | h
      · exact ⟨0, by rw [h]; rfl, by omega⟩
      · exact ⟨1, by rw [h]; rfl, by omega⟩
    have hL1 : 1 ≤ x.level := by omega
    have hL2 : x.level ≤ 2 := by omega
    have hres : R = fromM zs va ll (ppnM x.pte) := by
      rw [← HRs.out]
      simp only [resumeM, if_true]
      rw [hsub]
      simp
    have HRes : Hid (R = fromM zs va ll (ppnM x.pte)) := hres
    have hpb := hok.2.2.2
    have htb : Hid (∀ u : World, Calls Tryz.prog 192 #[.int .u64 x.pte] u fun e w' => e = .returned (.int .u64 (ppnM x.pte)) ∧ w' = u) := fun u => table_at x.pte u hpb.1 hpb.2
    have hpp := ppnM_bd x.pte
    clear CE hres HRs HX HGet hlv S2 hx
    generalize ppnM x.pte = pp at *
    generalize x.level = L0 at *
    generalize x.tag = tg at *
    generalize x.asid = ad at *
    generalize x.glob = gl at *
    generalize x.valid = vv at *
    generalize x.pte = pt at *
    have n3 := (Below.refl v2.heap.size v2).alloc (Nat.le_refl _) (Obj.cells #[.int .i64 L0, .int .u64 tg, .int .u64 ad, .bool gl, .bool vv, .int .u64 pt] 257)
    have S3 : Hid ((v2.alloc (Obj.cells #[.int .i64 L0, .int .u64 tg, .int .u64 ad, .bool gl, .bool vv, .int .u64 pt] 257)).heap[v2.heap.size]? = some (.cells #[.int .i64 L0, .int .u64 tg, .int .u64 ad, .bool gl, .bool vv, .int .u64 pt] 257 (0, 0))) := heap_alloc_new v2 _
    go_wp2_with fail
    generalize v2.alloc (Obj.cells #[.int .i64 L0, .int .u64 tg, .int .u64 ad, .bool gl, .bool vv, .int .u64 pt] 257) = v3 at n3 S3 ⊢
    have H3 := hid_keep H2 n3
    have A3 := Below.step A2 n3 (Nat.le_refl _)
    have l3 : w.heap.size < v3.heap.size := Nat.lt_of_lt_of_le l2 n3.size
    clear g0 g1 g2 g3 g4 g5 p2' d0 d1 d2 e0 e1 e2 n3 H2 A2
    obtain ⟨⟨g0, g1, g2, g3, g4, g5⟩, _⟩ := six_at S3.out
    have D3 : Below v3.heap.size v3 v3.drew := (Below.refl _ _).drew
    have nev1 : v2.heap.size ≠ w.heap.size := by omega
    have nev2 : w.heap.size ≠ v2.heap.size := by omega
    have hwl : IntKind.i64.wrap (ll : Int) = (ll : Int) := (IntKind.wrap_i64 _).trans (by omega)
    clear g1 g2 g3 g4 hk hko hkl hb hok hql HS
    clear l1 l2 hr0 hr1
    go_region_held3 (fun w' => w'.cell? ⟨v2.heap.size, 0, none⟩ = some (.int .i64 L0) ∧ w'.cell? ⟨v2.heap.size, 5, none⟩ = some (.int .u64 pt)) (go_keep)
      (first
      | (go_at_call 192; refine (htb.out _).mono ?_; rintro e w' ⟨rfl, rfl⟩)
      | (go_at_call 191; refine (walkFrom_any sv zs va pp ll v3.drew (HB.out.keep (Below.step A3 D3 (Nat.le_refl _))) (by omega) hv0 hv1 hpp.1 hpp.2).mono ?_; rw [← HRes.out]; rintro e v4 ⟨hw, n4⟩; obtain ⟨ra, rc, rfl, o4⟩ := hw; have N4 := Below.step D3 n4 (Nat.le_refl _); have H4 := hid_keep H3 N4; have S4 := hid_keep S3 N4; have A4 := Below.step A3 N4 (Nat.le_refl _); have O4 : Hid _ := o4; have kk := three_cells H4.out; obtain ⟨⟨j0, j1, j2⟩, i0, i1, i2⟩ := kk; have kk2 := six_at S4.out; obtain ⟨⟨t0, t1, t2, t3, t4, t5⟩, _⟩ := kk2; clear o4))
    all_goals
      go_wp2_with fail
      exact bodyPost_ret (v := .tuple #[.agg #[.int .i64 R.2.1, .int .u64 R.2.2.1, .slice ra R.2.2.2.length rc], faultV R.1]) (by simp [results, Tryz.results156, go_sem, j0, j1, j2]) rfl ⟨⟨ra, rc, rfl, own_low (own_gb O4.out (gb3 v4 w.heap.size _ _ _) l3) (Nat.le_of_lt l3)⟩, bel3 A4 (Nat.le_refl _) _ _ _⟩

end Go.Proofs.YthekickjjaleaacGreat

/- A row of empty entries that is made; entries that are copied. -/
namespace Go.Proofs.YthekickjjaleaacGreat
open Go.RowKit
set_option linter.unusedVariables false

theorem made_ents (z : EntM) (n : Nat) : (madeCells (entC z).toArray (n * 6)).toList = entsC (List.replicate n z) := by
  apply List.ext_getElem?
  intro j
  by_cases hj : j < n * 6
  · have hq : j / 6 < (List.replicate n z).length := by simp; omega
    have := entsC_at (List.replicate n z) (j / 6) (j % 6) hq (by omega)
    rw [show j / 6 * 6 + j % 6 = j by omega] at this
    rw [this]
    have h6 : j % 6 < (entC z).length := by simp [entC]; omega
    simp only [madeCells, List.getElem_replicate]
    rw [List.getElem?_eq_getElem h6]
    simp [hj, entC]
    rw [List.getElem?_eq_getElem (by simpa [entC] using h6)]
    rfl
  · rw [List.getElem?_eq_none (by simp [madeCells]; omega), List.getElem?_eq_none (by rw [entsC_len]; simp; omega)]

theorem makeE (n : Nat) (hn : n ≤ 1048576) : ∃ cs : Array Value, cs.toList = entsC (List.replicate n ent0) ∧ ∀ u : World, (Instr.makeSlice 32 (.int .i64 (n : Int)) (.int .i64 (n : Int))).run Tryz.prog u = .ok (.slice (some ⟨u.heap.size, 0, none⟩) n n) (u.alloc (.cells cs 101)) := by
  obtain ⟨i0, hi, hz0, hz1, hz2⟩ := info_parts Tryz.infoEnt
  refine ⟨madeCells (Value.agg #[.bool false, .int .i64 0, .int .u64 0, .int .u64 0, .bool false, .int .u64 0]).cells (n * 6), ?_, fun u => ?_⟩
  · exact made_ents ent0 n
  · have := run_make (P := Tryz.prog) u 32 101 i0 _ Tryz.underlying32 hi hz0 .i64 .i64 n n (by omega) (Int.le_refl _) (by rw [hz2]; omega) (by omega)
    rw [hz1] at this
    simpa using this

/-- copy over a whole row of six cells an element. -/
theorem run_copy_six {P : Program} (w : World) (dT sT ty elem : TypeId) (g n dCap : Nat) (a : Addr) (sCap : Nat) (cur : Array Value) (t : TypeId) (cs : List Value)
    (hu : P.underlying dT = some (.slice elem)) (hs : (P.info? elem).map (·.size) = some 6) (hg : w.heap[g]? = some (.cells cur t (0, 0))) (hn : cs.length = n * 6)
    (hsrc : ∀ j v, cs[j]? = some v → w.cell? (a.add j) = some v) (hfit : cs.length = cur.size) (h1 : ∀ v ∈ cs, v.oneCell' = true) :
    (Builtin.copy_ #[dT, sT] ty #[.slice (some ⟨g, 0, none⟩) n dCap, .slice (some a) n sCap]).run P w = .ok (goInt n) (w.setRow g cs.toArray) := by
  have hl := run_loadCells_list (P := P) w a cs hsrc
  have hst := run_storeCells_at P g 0 t cs 0 cur w hg (by simp; omega) h1
  cases hq : P.info? elem with
  | none => simp [hq] at hs
  | some i =>
    have hi : i.size = 6 := by simpa [hq] using hs
    simp [Builtin.copy_, run_underlying hu, Builtin.lenOf, Builtin.firstCells, sizeOf, typeInfo, hq, hi, ← hn, hl, hst]
    rw [List.drop_of_length_le (by simp; omega), List.append_nil]

theorem wpList_copy_six {P : Program} {w : World} {ops : Array Oper} {rest : List Oper} {o : Oper} {a : Act} {Q : Exit → Act → World → Prop} (hgd : o.guard = none) (d s : Operand) (dT sT : TypeId)
    (ho : o.op = .call { callee := .builtin .copy, args := #[d, s], argTypes := #[dT, sT] }) (elem : TypeId) (hu : P.underlying dT = some (.slice elem)) (hsz : (P.info? elem).map (·.size) = some 6)
    (g n dCap : Nat) (sp : Option Addr) (sCap : Nat) (hd : a.eval d = .slice (some ⟨g, 0, none⟩) n dCap) (hs : a.eval s = .slice sp n sCap) (hnil : sp = none → n = 0 ∧ sCap = 0) (hspot : ∀ q, sp = some q → q.spot = none)
    (cur : Array Value) (t : TypeId) (hg : w.heap[g]? = some (.cells cur t (0, 0))) (cs : List Value) (hr : RowC w sp n 6 cs) (hfit : cur.size = n * 6) (h1 : ∀ v ∈ cs, v.oneCell' = true)
    (h : ∀ w', w'.heap[g]? = some (.cells cs.toArray t (0, 0)) → Below g w w' → wpList P ops Q rest (a.put o.dst (goInt n)) w') : wpList P ops Q (o :: rest) a w := by
  refine wpList_plain hgd fun K hK => ?_
  cases sp with
  | none =>
    obtain ⟨rfl, rfl⟩ := hnil rfl
    have hcs : cs = [] := by have := hr.1; simpa using this
    subst hcs
    have hcur : cur = #[] := by simpa using hfit
    subst hcur
    have hrun := run_copy_nil (P := P) w dT sT o.type elem ⟨g, 0, none⟩ 0 dCap hu (by
      cases hq : P.info? elem with
      | none => simp [hq] at hsz
      | some i => rfl)
    unfold Oper.wp
    simp [execOp, ho, resolve, invoke, builtin, hd, hs, hrun, Result.andThen]
    exact hK _ _ (h w hg (Below.refl _ _))
  | some q =>
    obtain ⟨b, off, spot⟩ := q
    have := hspot _ rfl
    simp only at this
    subst this
    have hrun := run_copy_six (P := P) w dT sT o.type elem g n dCap ⟨b, off, none⟩ sCap cur t cs hu hsz hg hr.1 (src_row hr) (by rw [hr.1, hfit]) h1
    unfold Oper.wp
    simp [execOp, ho, resolve, invoke, builtin, hd, hs, hrun, Result.andThen]
    exact hK _ _ (h _ (setRow_heap w g _ _ t _ hg) (below_setRow (Below.refl _ _) (Nat.le_refl _) _))

theorem Tryz.sizeEnt : (Tryz.prog.info? 101).map (·.size) = some 6 := by kernel_rfl


end Go.Proofs.YthekickjjaleaacGreat

/- The program's entry and tlb, for one kind of cache. Written by mk4.py. -/
namespace Go.Proofs.YthekickjjaleaacGreat
open Go.RowKit
set_option linter.unusedVariables false
attribute [local go_sem ↓] Go.wp_at_zero Go.wp_at_succ

theorem entryP_any (lv tg asd pt : Int) (gl vv : Bool) (w : World) :
    Calls Tryz.prog 163 #[.agg #[.int .i64 lv, .int .u64 tg, .int .u64 asd, .bool gl, .bool vv, .int .u64 pt]] w fun e w' => e = .returned (.agg #[.bool vv, .int .i64 lv, .int .u64 tg, .int .u64 asd, .bool gl, .int .u64 pt]) ∧ Below w.heap.size w w' := by
  have n1 := ((Below.refl w.heap.size w).alloc (Nat.le_refl _) (Obj.cells #[.int .i64 lv, .int .u64 tg, .int .u64 asd, .bool gl, .bool vv, .int .u64 pt] 257)).alloc (by simp) (Obj.cells #[.bool vv, .int .i64 lv, .int .u64 tg, .int .u64 asd, .bool gl, .int .u64 pt] 101)
  go_enter Tryz.func163, Tryz.ntmps163
  go_wp2_with fail
  exact bodyPost_ret (v := .agg #[.bool vv, .int .i64 lv, .int .u64 tg, .int .u64 asd, .bool gl, .int .u64 pt]) (by simp [results, Tryz.results163, go_sem]) rfl ⟨rfl, n1⟩

set_option maxRecDepth 20000 in
set_option maxHeartbeats 3200000 in
theorem tlbP_any (b o g n : Nat) (t : TlbM) (w : World) (hn : t.es.length = n) (hn1 : n ≤ 1048576) (hbl : b < w.heap.size) (hgl : g < w.heap.size)
    (c0 : w.cell? ⟨b, o, none⟩ = some (.int .i64 t.sets)) (c1 : w.cell? ⟨b, o + 1, none⟩ = some (.int .i64 t.ways)) (c2 : w.cell? ⟨b, o + 2, none⟩ = some (.slice (some ⟨g, 0, none⟩) n n)) (hr : RowC w (some ⟨g, 0, none⟩) n 6 (slotsC t.es)) :
    Calls Tryz.prog 113 #[.pointer (some ⟨b, o, none⟩)] w fun e w' => (∃ x, e = .returned x ∧ TlbOwn w.heap.size w' x t) ∧ Below w.heap.size w w' := by
  have HR : Hid (RowC w (some ⟨g, 0, none⟩) n 6 (slotsC t.es)) := hr
  have HN : Hid (t.es.length = n) := hn
  obtain ⟨sets, ways, es⟩ := t
  simp only at c0 c1 c2 HR HN
  clear hr hn
  obtain ⟨cs, hcs, hmk⟩ := makeE n hn1
  have n1 := (Below.refl w.heap.size w).alloc (Nat.le_refl _) (Obj.cells #[.int .i64 0, .int .i64 0, .slice none 0 0] 34)
  have H1 : Hid ((w.alloc (Obj.cells #[.int .i64 0, .int .i64 0, .slice none 0 0] 34)).heap[w.heap.size]? = some (.cells #[.int .i64 0, .int .i64 0, .slice none 0 0] 34 (0, 0))) := heap_alloc_new w _
  have l1 : (w.alloc (Obj.cells #[.int .i64 0, .int .i64 0, .slice none 0 0] 34)).heap.size = w.heap.size + 1 := by simp
  have nV : Below (w.alloc (Obj.cells #[.int .i64 0, .int .i64 0, .slice none 0 0] 34)).heap.size (w.alloc (Obj.cells #[.int .i64 0, .int .i64 0, .slice none 0 0] 34)) ((w.alloc (Obj.cells #[.int .i64 0, .int .i64 0, .slice none 0 0] 34)).alloc (.cells cs 101)) := (Below.refl _ _).alloc (Nat.le_refl _) _
  have hG : ((w.alloc (Obj.cells #[.int .i64 0, .int .i64 0, .slice none 0 0] 34)).alloc (.cells cs 101)).heap[w.heap.size + 1]? = some (.cells cs 101 (0, 0)) := by
    have := heap_alloc_new (w.alloc (Obj.cells #[.int .i64 0, .int .i64 0, .slice none 0 0] 34)) (.cells cs 101)
    simp only [World.size_alloc] at this
    exact this
  have hcl : cs.toList.length = n * 6 := by rw [hcs, entsC_len]; simp
  have O2 : Hid (((w.alloc (Obj.cells #[.int .i64 0, .int .i64 0, .slice none 0 0] 34)).alloc (.cells cs 101)).ownsRow (w.heap.size + 1) 101 6 (.slice (some ⟨w.heap.size + 1, 0, none⟩) n n) n (entsC (firstN 0 n es))) := by
    rw [firstN_start, ← hcs]
    exact ⟨hcl, .inr ⟨_, n, cs, rfl, Nat.le_refl _, hG, Nat.le_refl _, by unfold maxLen; omega, by rw [← hcl]; simp, List.take_of_length_le (by omega)⟩⟩
  have A2 := Below.step n1 nV (Nat.le_refl _)
  have K2 := hid_keep H1 nV
  have B2 : Below (w.heap.size + 1) ((w.alloc (Obj.cells #[.int .i64 0, .int .i64 0, .slice none 0 0] 34)).alloc (.cells cs 101)) ((w.alloc (Obj.cells #[.int .i64 0, .int .i64 0, .slice none 0 0] 34)).alloc (.cells cs 101)) := Below.refl _ _
  have l2 : ((w.alloc (Obj.cells #[.int .i64 0, .int .i64 0, .slice none 0 0] 34)).alloc (.cells cs 101)).heap.size = w.heap.size + 2 := by simp
  clear hG hcl hcs H1 n1 nV
  have e0 : w.heap.size ≠ b := by omega
  have e1 : w.heap.size + 1 ≠ b := by omega
  go_enter Tryz.func113, Tryz.ntmps113
  go_wp2_with fail
  generalize ((w.alloc (Obj.cells #[.int .i64 0, .int .i64 0, .slice none 0 0] 34)).alloc (.cells cs 101)) = v2 at O2 A2 K2 l2 B2 ⊢
  go_loopw [17] (fun i wr => ∃ k : Nat, k ≤ n ∧ i = .int .i64 k ∧ wr.ownsRow (w.heap.size + 1) 101 6 (.slice (some ⟨w.heap.size + 1, 0, none⟩) n n) n (entsC (firstN k n es)) ∧ Below (w.heap.size + 1) v2 wr) (fun i _ => n - (intOf i).toNat)
  case atStart => exact ⟨0, Nat.zero_le _, rfl, O2.out, B2⟩
  case round =>
    obtain ⟨k, hk, rfl, hO, hb⟩ := hrel
    have PO : Hid (wr.ownsRow (w.heap.size + 1) 101 6 (.slice (some ⟨w.heap.size + 1, 0, none⟩) n n) n (entsC (firstN k n es))) := hO
    have lg : w.heap.size + 1 < wr.heap.size := (own_at hO).2.2
    have A3 : Below w.heap.size w wr := A2.trans (hb.mono (by omega))
    have P1 : Hid (wr.heap[w.heap.size]? = some (.cells #[.int .i64 0, .int .i64 0, .slice none 0 0] 34 (0, 0))) := (hb.block w.heap.size (by omega)).trans K2.out
    clear hO
    have r0 : wr.cell? ⟨b, o, none⟩ = some (.int .i64 sets) := Below.cell2 A3 c0 hbl
    have r1 : wr.cell? ⟨b, o + 1, none⟩ = some (.int .i64 ways) := Below.cell2 A3 c1 hbl
    have r2 : wr.cell? ⟨b, o + 2, none⟩ = some (.slice (some ⟨g, 0, none⟩) n n) := Below.cell2 A3 c2 hbl
    by_cases hlt : k < n
    · obtain ⟨⟨vv, lv, tg, asd, gl, pt⟩, hx⟩ : ∃ x, es[k]? = some x := ⟨_, List.getElem?_eq_getElem (by rw [HN.out]; exact hlt)⟩
      have HXk : Hid (es[k]? = some ⟨vv, lv, tg, asd, gl, pt⟩) := hx
      have CE : ∀ j u, j < 6 → (slotC ⟨vv, lv, tg, asd, gl, pt⟩)[j]? = some u → wr.cell? ⟨g, k * 6 + j, none⟩ = some u := fun j u hj hu => slotRow_cell (HR.out.keep A3) HN.out k _ hx j u hj hu
      have g0 : wr.cell? ⟨g, k * 6, none⟩ = some (.int .i64 lv) := CE 0 _ (by omega) rfl
      have g1 : wr.cell? ⟨g, k * 6 + 1, none⟩ = some (.int .u64 tg) := CE 1 _ (by omega) rfl
      have g2 : wr.cell? ⟨g, k * 6 + 2, none⟩ = some (.int .u64 asd) := CE 2 _ (by omega) rfl
      have g3 : wr.cell? ⟨g, k * 6 + 3, none⟩ = some (.bool gl) := CE 3 _ (by omega) rfl
      have g4 : wr.cell? ⟨g, k * 6 + 4, none⟩ = some (.bool vv) := CE 4 _ (by omega) rfl
      have g5 : wr.cell? ⟨g, k * 6 + 5, none⟩ = some (.int .u64 pt) := CE 5 _ (by omega) rfl
      clear CE hx
      have n5 := (Below.refl wr.heap.size wr).alloc (Nat.le_refl _) (Obj.cells #[.int .i64 lv, .int .u64 tg, .int .u64 asd, .bool gl, .bool vv, .int .u64 pt] 257)
      go_wp2_with fail
      generalize wr.alloc (Obj.cells #[.int .i64 lv, .int .u64 tg, .int .u64 asd, .bool gl, .bool vv, .int .u64 pt] 257) = v5 at n5 ⊢
      refine (entryP_any lv tg asd pt gl vv v5).mono ?_
      rintro e v6 ⟨rfl, n6⟩
      have n56 := Below.step n5 n6 (Nat.le_refl _)
      have SO : Hid (v6.ownsRow (w.heap.size + 1) 101 6 (.slice (some ⟨w.heap.size + 1, 0, none⟩) n n) n (entsC (firstN k n es))) := own_below PO.out n56
      have B6 : Below (w.heap.size + 1) v2 v6 := hb.trans (n56.mono (by omega))
      have hfl : (entsC (firstN k n es)).length = n * 6 := by
        have := HN.out
        subst this
        rw [entsC_len, firstN_len _ _ (by omega)]
      clear g0 g1 g2 g3 g4 g5 r0 r1 r2 n5 n6 n56 hb A3
      have q0 := own_cell SO.out (k * 6) _ (List.getElem?_eq_getElem (by omega))
      have q1 := own_cell SO.out (k * 6 + 1) _ (List.getElem?_eq_getElem (by omega))
      have q2 := own_cell SO.out (k * 6 + 2) _ (List.getElem?_eq_getElem (by omega))
      have q3 := own_cell SO.out (k * 6 + 3) _ (List.getElem?_eq_getElem (by omega))
      have q4 := own_cell SO.out (k * 6 + 4) _ (List.getElem?_eq_getElem (by omega))
      have q5 := own_cell SO.out (k * 6 + 5) _ (List.getElem?_eq_getElem (by omega))
      generalize (entsC (firstN k n es))[k * 6]'_ = y0 at q0
      generalize (entsC (firstN k n es))[k * 6 + 1]'_ = y1 at q1
      generalize (entsC (firstN k n es))[k * 6 + 2]'_ = y2 at q2
      generalize (entsC (firstN k n es))[k * 6 + 3]'_ = y3 at q3
      generalize (entsC (firstN k n es))[k * 6 + 4]'_ = y4 at q4
      generalize (entsC (firstN k n es))[k * 6 + 5]'_ = y5 at q5
      have s0 := own_free SO.out (k * 6)
      have s1 := own_free SO.out (k * 6 + 1)
      have s2 := own_free SO.out (k * 6 + 2)
      have s3 := own_free SO.out (k * 6 + 3)
      have s4 := own_free SO.out (k * 6 + 4)
      have s5 := own_free SO.out (k * 6 + 5)
      go_wp2_with fail
      go_roundw
      case rel =>
        refine ⟨k + 1, by omega, by go_num, ?_, ?_⟩
        · have := HN.out
          subst this
          rw [firstN_next k es _ HXk.out, entsC_set _ _ _ (by rw [firstN_len _ _ (by omega)]; exact hlt)]
          exact own_store (own_store (own_store (own_store (own_store (own_store SO.out _ _) _ _) _ _) _ _) _ _) _ _
        · have hg1 : w.heap.size + 1 ≤ w.heap.size + 1 := Nat.le_refl _
          exact (((((B6.setCell (p := ⟨w.heap.size + 1, _, none⟩) hg1 _).setCell (p := ⟨w.heap.size + 1, _, none⟩) hg1 _).setCell (p := ⟨w.heap.size + 1, _, none⟩) hg1 _).setCell (p := ⟨w.heap.size + 1, _, none⟩) hg1 _).setCell (p := ⟨w.heap.size + 1, _, none⟩) hg1 _).setCell (p := ⟨w.heap.size + 1, _, none⟩) hg1 _
      case measure => simp [intOf]; omega
    · have hkn : k = n := by omega
      subst hkn
      obtain ⟨⟨d0, d1, d2⟩, f0, f1, f2⟩ := three_cells P1.out
      go_wp2_with fail
      go_region
      all_goals
        go_wp2_with fail
        refine bodyPost_ret (v := .agg #[.int .i64 sets, .int .i64 ways, .slice (some ⟨w.heap.size + 1, 0, none⟩) k k]) (by simp [results, Tryz.results113, go_sem, d0, d1, d2]) rfl ⟨⟨_, rfl, w.heap.size + 1, k, by simp only; rw [HN.out], ?_⟩, (bel3 A3 (Nat.le_refl _) _ _ _).drew⟩
        simp only
        rw [HN.out]
        have hO := PO.out
        have hq := HN.out
        subst hq
        rw [firstN_all] at hO
        exact own_low (own_drew (own_gb hO (gb3 wr w.heap.size _ _ _) (by omega))) (by omega)

end Go.Proofs.YthekickjjaleaacGreat

/- The program's knownShape. -/
namespace Go.Proofs.YthekickjjaleaacGreat
open Go.RowKit
set_option linter.unusedVariables false

set_option maxHeartbeats 1600000 in
theorem knownShape_any (sets ways : Int) (a : Option Addr) (n cap : Nat) (w : World) (hn : n ≤ 1048576) (hs : -9223372036854775808 ≤ sets ∧ sets ≤ 9223372036854775807) (hw : -9223372036854775808 ≤ ways ∧ ways ≤ 9223372036854775807) :
    Calls Tryz.prog 148 #[.agg #[.int .i64 sets, .int .i64 ways, .slice a n cap]] w fun e w' => e = .returned (.bool (decide ((sets = 1 ∨ sets = 2 ∨ sets = 4 ∨ sets = 8) ∧ 1 ≤ ways ∧ ways ≤ 4 ∧ (n : Int) = sets * ways))) ∧ Below w.heap.size w w' := by
  have n1 := (Below.refl w.heap.size w).alloc (Nat.le_refl _) (Obj.cells #[.int .i64 sets, .int .i64 ways, .slice a n cap] 34)
  by_cases h1 : sets = 1 ∨ sets = 2 ∨ sets = 4 ∨ sets = 8
  · by_cases h2 : ¬ (1 ≤ ways)
    · rcases h1 with rfl | rfl | rfl | rfl
      all_goals
        go_enter Tryz.func148, Tryz.ntmps148
        go_wp2_with fail
        go_ret
        exact ⟨ret_bool (by simp; omega), n1⟩
    · have h2' := Decidable.not_not.1 h2
      clear h2
      by_cases h3 : ¬ (ways ≤ 4)
      · rcases h1 with rfl | rfl | rfl | rfl
        all_goals
          go_enter Tryz.func148, Tryz.ntmps148
          go_wp2_with fail
          go_ret
          exact ⟨ret_bool (by simp; omega), n1⟩
      · have h3' := Decidable.not_not.1 h3
        clear h3
        rcases h1 with rfl | rfl | rfl | rfl
        all_goals
          go_enter Tryz.func148, Tryz.ntmps148
          go_wp2_with fail
          go_ret
          exact ⟨ret_bool (by simp [h2', h3']; rfl), n1⟩
  · have h1' := h1
    simp only [not_or] at h1'
    obtain ⟨s1, s2, s4, s8⟩ := h1'
    go_enter Tryz.func148, Tryz.ntmps148
    go_wp2_with fail
    go_ret
    exact ⟨ret_bool (by simp [h1]), n1⟩

end Go.Proofs.YthekickjjaleaacGreat

/- An Entry held against the zero Entry. -/
namespace Go.Proofs.YthekickjjaleaacGreat
open Go.RowKit
set_option linter.unusedVariables false

def zeroB (e : EntM) : Bool := e.valid == false && e.level == 0 && e.tag == 0 && e.asid == 0 && e.glob == false && e.pte == 0

theorem ent_eq (v : Bool) (lv tg asd : Int) (gl : Bool) (pt : Int) (w : World) :
    (binOp .eql 101 (.agg #[.bool v, .int .i64 lv, .int .u64 tg, .int .u64 asd, .bool gl, .int .u64 pt]) (.agg #[.bool false, .int .i64 0, .int .u64 0, .int .u64 0, .bool false, .int .u64 0])).run Tryz.prog w = .ok (.bool (zeroB ⟨v, lv, tg, asd, gl, pt⟩)) w := by
  unfold zeroB
  cases v
  case true => (go_simp; try simp)
  by_cases h1 : lv = 0
  case neg => (have q1 : (lv == 0) = false := by simpa using h1); (go_simp; try simp [q1])
  subst h1
  by_cases h2 : tg = 0
  case neg => (have q1 : (tg == 0) = false := by simpa using h2); (go_simp; try simp [q1])
  subst h2
  by_cases h3 : asd = 0
  case neg => (have q1 : (asd == 0) = false := by simpa using h3); (go_simp; try simp [q1])
  subst h3
  cases gl
  case true => (go_simp; try simp)
  by_cases h4 : pt = 0
  case neg => (have q1 : (pt == 0) = false := by simpa using h4); (go_simp; try simp [q1])
  subst h4
  go_simp
  try simp

end Go.Proofs.YthekickjjaleaacGreat
