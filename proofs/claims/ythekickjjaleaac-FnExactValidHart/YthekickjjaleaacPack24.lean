import Derived.Test.YthekickjjaleaacPack08
import Derived.Test.YthekickjjaleaacPack22
import Derived.Test.YthekickjjaleaacPack23
import Derived.Test.YthekickjjaleaacPack16
import Derived.Test.YthekickjjaleaacPack15
import Derived.Test.YthekickjjaleaacPack17
import Derived.Test.YthekickjjaleaacPack21
import Derived.Test.YthekickjjaleaacPack09
import Derived.Test.YthekickjjaleaacPack10
/- markByteS and heldByteS. -/
namespace Go.Proofs.Ythekickjjaleaac
open Go.RowKit
set_option linter.unusedVariables false

set_option maxHeartbeats 400000 in
theorem markByteS_any (g len cap : Nat) (zs : List Int) (k0 : Int) (w : World) (h : Blk 5 w g zs) (hz : zs.length = len) (hl : len ≤ 1048576) (hk0 : 0 ≤ k0) (hk1 : k0 ≤ 1073741824) :
    Calls Try.prog 10 #[.slice (some ⟨g, 0, none⟩) len cap, .int .i64 k0] w fun e w' =>
      e = .returned (.int .i64 (k0 + len)) ∧ Blk 5 w' g (mks k0 len) ∧ w.grownBy w' (some g) := by
  go_enter Try.func10, Try.ntmps10
  go_wp2
  go_loopw [1, 5] (fun kk i wr => ∃ (j : Nat) (ys : List Int), j ≤ len ∧ kk = .int .i64 (k0 + j) ∧ i = .int .i64 j ∧ ys.length = len ∧ (∀ t, t < j → ys[t]? = (mks k0 len)[t]?) ∧ Blk 5 wr g ys ∧ w.grownBy wr (some g)) (fun _ i _ => len - (intOf i).toNat)
  case atStart => exact ⟨0, zs, Nat.zero_le _, by simp, rfl, hz, fun t ht => absurd ht (by omega), h, gb_refl _ _⟩
  case round =>
    obtain ⟨j, ys, hj, rfl, rfl, hy, hyz, hb, hn⟩ := hrel
    by_cases hlt : j < len
    · have g2 := hb.cell j (by omega)
      have g3 := hb.free j
      have HZ : Hid (∀ t, t < j → ys[t]? = (mks k0 len)[t]?) := hyz
      clear hyz h
      go_wp2
      go_roundw
      case rel => exact ⟨j + 1, _, by omega, by go_num, by go_num, by simp [hy], mark_step k0 len j ys hy hlt HZ.out, hb.store j _, gb_set hn _ _⟩
      case measure => simp [intOf]; omega
    · have hyy : ys = mks k0 len := by
        apply List.ext_getElem?
        intro t
        by_cases ht : t < len
        · exact hyz t (by omega)
        · rw [List.getElem?_eq_none (by omega), List.getElem?_eq_none (by rw [mks_len]; omega)]
      subst hyy
      have hjl : j = len := by omega
      subst hjl
      clear hyz h
      go_wp2
      go_ret
      exact ⟨rfl, hb, hn⟩

end Go.Proofs.Ythekickjjaleaac

/- What the law of scripts keeps of an answer: its box, its rows. -/
namespace Go.Proofs.Ythekickjjaleaac
open Go.RowKit
set_option linter.unusedVariables false

theorem HartIn.row {w : World} {p : PtrM} {h : HartM} (k : HartIn w p h) : HartR w p h ∧ h.k.i.es.length ≤ 1048576 ∧ h.k.d.es.length ≤ 1048576 ∧ h.k.p.es.length ≤ 1048576 := by
  obtain ⟨a1, c1, a2, c2, a3, c3, he, t1, t2, t3⟩ := k.ks
  simp only [kA, Value.agg.injEq, Array.mk.injEq, List.cons.injEq, Value.slice.injEq, true_and, and_true] at he
  obtain ⟨⟨rfl, rfl⟩, ⟨rfl, rfl⟩, rfl, rfl⟩ := he
  exact ⟨⟨k.mem, k.regs, t1.row.1, t2.row.1, t3.row.1⟩, t1.row.2, t2.row.2, t3.row.2⟩

theorem picks_len (zs : List Int) : (picksM zs).length ≤ 20000 := by
  simp only [picksM, List.length_map, List.length_range, stepsM]
  omega

theorem dec_len {zs : List Int} (hz : ∀ i : Nat, 0 ≤ zs[i]?.getD 0 ∧ zs[i]?.getD 0 ≤ 255) : (decodeHM zs).mem.length ≤ 4096 ∧ (decodeHM zs).regs.length = 8 :=
  have k := (dec_hok hz).v
  ⟨by have := k.size; simp [sizeM] at this; exact this.2.2, k.regs⟩

/-- A script laid into a new block. -/
theorem put_new (v : World) (V : Array Value) (hs : V.size = 22) (h1 : V.all (·.oneCell') = true) :
    ∃ v', (Instr.storeAt 34 (.pointer (some ⟨v.heap.size, 0, none⟩)) (.agg V)).run Try.prog (v.alloc (Obj.cells zscriptA 34)) = .ok () v' ∧ v'.heap[v.heap.size]? = some (.cells V 34 (0, 0)) ∧ v.heap.size < v'.heap.size ∧ Below v.heap.size v v' := by
  have a := alloc1 v zscriptA 34
  refine ⟨_, box_put (P := Try.prog) (T := 34) a.1 (by rw [hs]; exact scriptI) (by rw [hs]; rfl) h1, box_putH a.1 (by rw [hs]; rfl), ?_, ?_⟩
  · rw [size_sets, a.2.1]
    exact Nat.lt_succ_self _
  · exact bel_sets (Nat.le_refl _) _ _ _ a.2.2

/-- A load under a guard that says yes, its run known. -/
theorem wpl_loadg {P : Program} {ops : Array Oper} {Q : Exit → Act → World → Prop} {rest : List Oper} {a : Act} {d : Tmp} {T ty : TypeId} {x : Operand} {pos : String} {af : Array Edge} {g : Option (Nat × Bool)} {w : World} {b o : Nat} {V : Value} (hw : Region.wanted { dst := some d, op := .load T x, type := ty, pos := pos, after := af, guard := g } (yielded ops a.tmps) = true) (hx : a.eval x = .pointer (some ⟨b, o, none⟩)) (hl : (Instr.loadAt T (.pointer (some ⟨b, o, none⟩))).run P w = .ok V w)
    (h : wpList P ops Q rest (a.put (some d) V) w) : wpList P ops Q ({ dst := some d, op := .load T x, type := ty, pos := pos, after := af, guard := g } :: rest) a w :=
  wpList_step fun K hK => by
    rw [if_pos hw]
    unfold Oper.wp execOp
    simp only [hx, Sem.run_bind, hl, Result.andThen_ok, Sem.run_pure]
    exact hK _ _ h

theorem box_script {v : World} {g : Nat} {V : Array Value} (hs : V.size = 22) (h : v.heap[g]? = some (.cells V 34 (0, 0))) : (Instr.loadAt 34 (.pointer (some ⟨g, 0, none⟩))).run Try.prog v = .ok (.agg V) v :=
  box_whole h Try.underlying34 rfl (by rw [hs]; exact scriptI)

/-- A script whose rows are of the call's own. -/
structure ScrO (base : Nat) (v : World) (p : PtrM) (h : HartM) (pa : Option Addr) (pc : Nat) (ps : List Int) : Prop where
  hart : HartO base v p h (bytC h.mem) (numsC h.regs) (entsC h.k.i.es) (entsC h.k.d.es) (entsC h.k.p.es)
  pick : v.ownsRow base 2 1 (.slice pa ps.length pc) ps.length (picksC ps)

theorem ScrO.keep {base : Nat} {v v' : World} {p : PtrM} {h : HartM} {pa : Option Addr} {pc : Nat} {ps : List Int} (k : ScrO base v p h pa pc ps) (hb : Below v.heap.size v v') : ScrO base v' p h pa pc ps :=
  ⟨k.hart.keep hb, own_below k.pick hb⟩

theorem ScrO.gb {base r : Nat} {v v' : World} {p : PtrM} {h : HartM} {pa : Option Addr} {pc : Nat} {ps : List Int} (k : ScrO base v p h pa pc ps) (hg : v.grownBy v' (some r)) (hr : r < base) : ScrO base v' p h pa pc ps :=
  ⟨k.hart.gb hg hr, own_gb k.pick hg hr⟩

theorem ScrO.low {base : Nat} {v : World} {p : PtrM} {h : HartM} {pa : Option Addr} {pc : Nat} {ps : List Int} (k : ScrO base v p h pa pc ps) : ∀ g, srows p h pa pc ps g → base ≤ g := by
  rintro g (h1 | h1)
  · exact (k.hart.low g h1).1
  · exact (k.pick.lt g h1).1

theorem ScrO.box {base pb : Nat} {v : World} {p : PtrM} {h : HartM} {pa : Option Addr} {pc : Nat} {ps : List Int} {cur : Array Value} {q : Nat × Nat} (k : ScrO base v p h pa pc ps) (hp : v.heap[pb]? = some (.cells cur 34 q)) : ¬ srows p h pa pc ps pb := by
  rintro (h1 | h1)
  · exact k.hart.box_ne hp (by decide) (by decide) (by decide) h1
  · exact box_own_ne k.pick hp (by decide) h1

theorem DecOwn.own {w v : World} {h : HartM} {ps : List Int} {e : Ending} (d : DecOwn w h ps e v) : (∃ p pa pc, e = .returned (.agg (scriptA p pa pc h ps)) ∧ ScrO w.heap.size v p h pa pc ps) ∧ Below w.heap.size w v := by
  obtain ⟨⟨g1, c1, g2, c2, g3, c3, gm, cm, gr, cr, gp, cp, rfl, o1, o2, o3, om, oR, op, n12, n13, n23⟩, n⟩ := d
  refine ⟨⟨_, _, _, rfl, ⟨om, oR, o1, o2, o3, ?_, ?_, ?_⟩, op⟩, n⟩
  · intro g h1 h2
    exact n12 (Option.some.inj (h1.trans h2.symm))
  · intro g h1 h2
    exact n13 (Option.some.inj (h1.trans h2.symm))
  · intro g h1 h2
    exact n23 (Option.some.inj (h1.trans h2.symm))

end Go.Proofs.Ythekickjjaleaac

/- ValidHart: the specification's and the program's. Written by mkvs.py. -/
namespace Go.Proofs.Ythekickjjaleaac
open Go.RowKit
set_option linter.unusedVariables false
attribute [local go_sem ↓] Go.wp_at_zero Go.wp_at_succ

def vhCore (h : HartM) : Prop := ((h.mem.length : Int) % 64 = 0 ∧ 64 ≤ (h.mem.length : Int) ∧ (h.mem.length : Int) ≤ 4096) ∧ (h.regs.length : Int) = 8 ∧ h.regs[0]?.getD 0 = 0 ∧ (0 ≤ h.mode ∧ h.mode ≤ 2) ∧ (0 ≤ h.emode ∧ h.emode ≤ 2) ∧ schemeM h.satp = true ∧ h.tvec % 4 = 0 ∧ (0 ≤ h.cause ∧ h.cause ≤ 63)

theorem core_iff (h : HartM) : (sizeM h.mem.length && plainHM h) = true ↔ vhCore h := by
  simp only [sizeM, plainHM, vhCore, Bool.and_eq_true, decide_eq_true_eq, beq_iff_eq]
  constructor
  · rintro ⟨⟨a, b, c⟩, ⟨⟨⟨⟨⟨⟨d, e⟩, f⟩, g⟩, i⟩, j⟩, k⟩⟩
    exact ⟨⟨by omega, by omega, by omega⟩, by omega, e, f, g, i, j, k⟩
  · rintro ⟨⟨a, b, c⟩, d, e, f, g, i, j, k⟩
    exact ⟨⟨by omega, by omega, by omega⟩, ⟨⟨⟨⟨⟨⟨by omega, e⟩, f⟩, g⟩, i⟩, j⟩, k⟩⟩

theorem row_first {w : World} {a : Option Addr} {xs : List Int} (h : RowC w a xs.length 1 (numsC xs)) (h8 : xs.length = 8) : ∃ b off, a = some ⟨b, off, none⟩ ∧ b < w.heap.size ∧ w.cell? ⟨b, off, none⟩ = some (.int .u64 (xs[0]?.getD 0)) := by
  rcases h.2 with h0 | ⟨b, off, rfl, hlt, hc⟩
  · omega
  · refine ⟨b, off, rfl, hlt, ?_⟩
    have := hc 0 (.int .u64 (xs[0]?.getD 0)) (by
      have : 0 < xs.length := by omega
      simp [numsC, List.getElem?_eq_getElem this])
    simpa using this

set_option maxRecDepth 20000 in
set_option maxHeartbeats 3200000 in
theorem specValidHart_8 (p : PtrM) (h : HartM) (w : World) (hi : HartIn w p h) (s0 : 0 ≤ h.satp) (s1 : h.satp ≤ 18446744073709551615) (t0 : 0 ≤ h.tvec) (h8 : h.regs.length = 8) :
    Calls Try.prog 14 #[.agg (hartA p h)] w fun e w' => e = .returned (.bool (validHM h)) ∧ Below w.heap.size w w' := by
  have F := alloc1 w (hartA p h) 31
  have A0 : Hid ((hartA p h)[0]? = some (.slice p.am h.mem.length p.cm)) := by show _ = _; rfl
  have A1 : Hid ((hartA p h)[1]? = some (.slice p.ar h.regs.length p.cr)) := by show _ = _; rfl
  have A3 : Hid ((hartA p h)[3]? = some (.int .i64 h.mode)) := by show _ = _; rfl
  have A6 : Hid ((hartA p h)[6]? = some (.int .u64 h.satp)) := by show _ = _; rfl
  have A7 : Hid ((hartA p h)[7]? = some (.int .u64 h.tvec)) := by show _ = _; rfl
  have A9 : Hid ((hartA p h)[9]? = some (.int .i64 h.emode)) := by show _ = _; rfl
  have A10 : Hid ((hartA p h)[10]? = some (.int .i64 h.cause)) := by show _ = _; rfl
  have KP : Hid (((hartA p h).toList.drop 12).take 9 = (kA p h.k).toList) := by show _ = _; rfl
  obtain ⟨R, hR⟩ : ∃ R, validHM h = R := ⟨_, rfl⟩
  have HF : Hid (R = true → vhCore h ∧ goodKM h.k = true) := fun hr => by
    rw [← hR, validHM, Bool.and_eq_true] at hr
    exact ⟨(core_iff h).1 hr.1, hr.2⟩
  have HT : Hid (vhCore h → goodKM h.k = true → R = true) := fun h1 h2 => by
    rw [← hR, validHM, Bool.and_eq_true]
    exact ⟨(core_iff h).2 h1, h2⟩
  unfold vhCore at HF HT
  rw [hR]
  have S1 : Hid (∀ u, Calls Try.prog 21 #[.int .u64 h.satp] u fun e w' => e = .returned (.bool (schemeM h.satp)) ∧ Below u.heap.size u w') := fun u => l5Scheme_any h.satp u s0 s1
  have S2 : Hid (∀ u, Below w.heap.size w u → Calls Try.prog 38 #[.agg (kA p h.k)] u fun e w' => e = .returned (.bool (goodKM h.k)) ∧ Below u.heap.size u w') := fun u hu => l4GoodCaches_any _ h.k u (hi.ks.keep hu)
  obtain ⟨rb, ro, hra, rlt, rc⟩ := row_first hi.regs h8
  have g8 : (h.regs.length : Int) = 8 := by omega
  rw [hra] at A1
  clear hi hR h8
  generalize hartA p h = A at *
  generalize h.mem.length = n at *
  generalize h.regs.length = m at *
  generalize h.regs[0]?.getD 0 = r0 at *
  go_enter Try.func14, Try.ntmps14
  go_upto_region 1 with fail
  generalize (w.alloc (Obj.cells A 31)) = u0 at F ⊢
  obtain ⟨f1, hz, nB⟩ := F
  have H1 : Hid _ := f1
  clear f1
  have m8 : m = 8 := by omega
  subst m8
  have x0 : u0.cell? ⟨rb, ro, none⟩ = some (.int .u64 r0) := (nB.cell (by exact rlt)).trans rc
  clear rc
  have c0 := box_cell H1.out 0 A0.out
  have c1 := box_cell H1.out 1 A1.out
  have c3 := box_cell H1.out 3 A3.out
  have c6 := box_cell H1.out 6 A6.out
  have c7 := box_cell H1.out 7 A7.out
  have c9 := box_cell H1.out 9 A9.out
  have c10 := box_cell H1.out 10 A10.out
  go_wp2_with fail
  any_goals (
    go_ret
    refine ⟨?_, nB⟩
    have hq : R = false := (by
      cases R with
      | false => rfl
      | true =>
        obtain ⟨⟨⟨q1, q2, q3⟩, q4, q5, ⟨q6, q7⟩, ⟨q8, q9⟩, q10, q11, ⟨q12, q13⟩⟩, q14⟩ := HF.out rfl
        first
        | (exfalso; omega)
        | (rw [hs] at q10; cases q10)
        | (rw [hs] at q14; cases q14))
    subst hq
    exact rfl)
  refine (S1.out u0).mono ?_
  rintro e u1 ⟨rfl, k1⟩
  replace nB := Below.step nB k1 (Nat.le_refl _)
  replace H1 := hid_keep H1 k1
  clear c0 c1 c3 c6 c7 c9 c10 x0 k1
  have c7 := box_cell H1.out 7 A7.out
  have c10 := box_cell H1.out 10 A10.out
  have J1 : Hid _ := box_load (P := Try.prog) (T := 29) H1.out Try.underlying29 rfl (o := 12) (kA p h.k).toList kI KP.out rfl
  rw [show (kA p h.k).toList.toArray = kA p h.k from rfl] at J1
  generalize kA p h.k = KA at *
  rcases Bool.eq_false_or_eq_true (schemeM h.satp) with hs | hs
  rotate_left 1
  · rw [hs]
    go_wp2_with fail
    any_goals (
      go_ret
      refine ⟨?_, nB⟩
      have hq : R = false := (by
        cases R with
        | false => rfl
        | true =>
          obtain ⟨⟨⟨q1, q2, q3⟩, q4, q5, ⟨q6, q7⟩, ⟨q8, q9⟩, q10, q11, ⟨q12, q13⟩⟩, q14⟩ := HF.out rfl
          first
          | (exfalso; omega)
          | (rw [hs] at q10; cases q10)
          | (rw [hs] at q14; cases q14))
      subst hq
      exact rfl)
  have HS : Hid (schemeM h.satp = true) := hs
  rw [hs]
  clear hs
  go_wp2_with (first | ((with_reducible refine wpl_loadg ?_ ?_ J1.out ?_); (exact rfl); (exact rfl)))
  any_goals (
    go_ret
    refine ⟨?_, nB⟩
    have hq : R = false := (by
      cases R with
      | false => rfl
      | true =>
        obtain ⟨⟨⟨q1, q2, q3⟩, q4, q5, ⟨q6, q7⟩, ⟨q8, q9⟩, q10, q11, ⟨q12, q13⟩⟩, q14⟩ := HF.out rfl
        first
        | (exfalso; omega)
        | (rw [hs] at q10; cases q10)
        | (rw [hs] at q14; cases q14))
    subst hq
    exact rfl)
  refine (S2.out u1 nB).mono ?_
  rintro e u2 ⟨rfl, k2⟩
  replace nB := Below.step nB k2 (Nat.le_refl _)
  clear c7 c10 k2 H1 J1
  have HG : Hid (goodKM h.k = R) := by
    show _ = _
    rcases Bool.eq_false_or_eq_true (goodKM h.k) with hg | hg
    · rw [hg]
      exact (HT.out ⟨⟨by assumption, by assumption, by assumption⟩, by omega, by omega, ⟨by omega, by omega⟩, ⟨by omega, by omega⟩, HS.out, by omega, ⟨by omega, by omega⟩⟩ hg).symm
    · rw [hg]
      cases R with
      | false => rfl
      | true => have := (HF.out rfl).2; rw [hg] at this; cases this
  rw [HG.out]
  go_wp2_with fail
  go_ret
  exact ⟨rfl, nB⟩

set_option maxRecDepth 20000 in
set_option maxHeartbeats 3200000 in
theorem specValidHart_n (p : PtrM) (h : HartM) (w : World) (hi : HartIn w p h) (s0 : 0 ≤ h.satp) (s1 : h.satp ≤ 18446744073709551615) (t0 : 0 ≤ h.tvec) (h8 : ¬ h.regs.length = 8) :
    Calls Try.prog 14 #[.agg (hartA p h)] w fun e w' => e = .returned (.bool (validHM h)) ∧ Below w.heap.size w w' := by
  have F := alloc1 w (hartA p h) 31
  have A0 : Hid ((hartA p h)[0]? = some (.slice p.am h.mem.length p.cm)) := by show _ = _; rfl
  have A1 : Hid ((hartA p h)[1]? = some (.slice p.ar h.regs.length p.cr)) := by show _ = _; rfl
  have A3 : Hid ((hartA p h)[3]? = some (.int .i64 h.mode)) := by show _ = _; rfl
  have A6 : Hid ((hartA p h)[6]? = some (.int .u64 h.satp)) := by show _ = _; rfl
  have A7 : Hid ((hartA p h)[7]? = some (.int .u64 h.tvec)) := by show _ = _; rfl
  have A9 : Hid ((hartA p h)[9]? = some (.int .i64 h.emode)) := by show _ = _; rfl
  have A10 : Hid ((hartA p h)[10]? = some (.int .i64 h.cause)) := by show _ = _; rfl
  have KP : Hid (((hartA p h).toList.drop 12).take 9 = (kA p h.k).toList) := by show _ = _; rfl
  obtain ⟨R, hR⟩ : ∃ R, validHM h = R := ⟨_, rfl⟩
  have HF : Hid (R = true → vhCore h ∧ goodKM h.k = true) := fun hr => by
    rw [← hR, validHM, Bool.and_eq_true] at hr
    exact ⟨(core_iff h).1 hr.1, hr.2⟩
  have HT : Hid (vhCore h → goodKM h.k = true → R = true) := fun h1 h2 => by
    rw [← hR, validHM, Bool.and_eq_true]
    exact ⟨(core_iff h).2 h1, h2⟩
  unfold vhCore at HF HT
  rw [hR]
  have S1 : Hid (∀ u, Calls Try.prog 21 #[.int .u64 h.satp] u fun e w' => e = .returned (.bool (schemeM h.satp)) ∧ Below u.heap.size u w') := fun u => l5Scheme_any h.satp u s0 s1
  have S2 : Hid (∀ u, Below w.heap.size w u → Calls Try.prog 38 #[.agg (kA p h.k)] u fun e w' => e = .returned (.bool (goodKM h.k)) ∧ Below u.heap.size u w') := fun u hu => l4GoodCaches_any _ h.k u (hi.ks.keep hu)
  have g8 : ¬ (h.regs.length : Int) = 8 := by omega
  clear hi hR h8
  generalize hartA p h = A at *
  generalize h.mem.length = n at *
  generalize h.regs.length = m at *
  generalize h.regs[0]?.getD 0 = r0 at *
  go_enter Try.func14, Try.ntmps14
  go_upto_region 1 with fail
  generalize (w.alloc (Obj.cells A 31)) = u0 at F ⊢
  obtain ⟨f1, hz, nB⟩ := F
  have H1 : Hid _ := f1
  clear f1
  have c0 := box_cell H1.out 0 A0.out
  have c1 := box_cell H1.out 1 A1.out
  have c3 := box_cell H1.out 3 A3.out
  have c6 := box_cell H1.out 6 A6.out
  have c7 := box_cell H1.out 7 A7.out
  have c9 := box_cell H1.out 9 A9.out
  have c10 := box_cell H1.out 10 A10.out
  go_wp2_with fail
  any_goals (
    go_ret
    refine ⟨?_, nB⟩
    have hq : R = false := (by
      cases R with
      | false => rfl
      | true =>
        obtain ⟨⟨⟨q1, q2, q3⟩, q4, q5, ⟨q6, q7⟩, ⟨q8, q9⟩, q10, q11, ⟨q12, q13⟩⟩, q14⟩ := HF.out rfl
        first
        | (exfalso; omega)
        | (rw [hs] at q10; cases q10)
        | (rw [hs] at q14; cases q14))
    subst hq
    exact rfl)

theorem specValidHart_any (p : PtrM) (h : HartM) (w : World) (hi : HartIn w p h) (s0 : 0 ≤ h.satp) (s1 : h.satp ≤ 18446744073709551615) (t0 : 0 ≤ h.tvec) :
    Calls Try.prog 14 #[.agg (hartA p h)] w fun e w' => e = .returned (.bool (validHM h)) ∧ Below w.heap.size w w' := by
  by_cases h8 : h.regs.length = 8
  · exact specValidHart_8 p h w hi s0 s1 t0 h8
  · exact specValidHart_n p h w hi s0 s1 t0 h8

theorem wholePages_at (n : Nat) (w : World) (hl : n ≤ 1048576) : Calls Try.prog 62 #[.int .i64 n] w fun e w' => e = .returned (.bool (sizeM n)) ∧ w' = w := by
  obtain ⟨R, hR⟩ : ∃ R, sizeM n = R := ⟨_, rfl⟩
  have HF : Hid (R = true ↔ ((n : Int) % 64 = 0 ∧ 64 ≤ (n : Int) ∧ (n : Int) ≤ 4096)) := by
    show _ ↔ _
    rw [← hR, sizeM, decide_eq_true_eq]
    omega
  rw [hR]
  clear hR
  go_enter Try.func62, Try.ntmps62
  go_wp2_with fail
  all_goals (
    go_ret
    refine ⟨?_, rfl⟩
    have q := HF.out
    cases R with
    | false => simp at q ⊢ <;> omega
    | true => simp at q ⊢ <;> omega)

end Go.Proofs.Ythekickjjaleaac

/- ValidHart: the program's. Written by mkvi.py. -/
namespace Go.Proofs.Ythekickjjaleaac
open Go.RowKit
set_option linter.unusedVariables false
attribute [local go_sem ↓] Go.wp_at_zero Go.wp_at_succ

set_option maxRecDepth 20000 in
set_option maxHeartbeats 3200000 in
theorem validCore_8 (p : PtrM) (h : HartM) (w : World) (hi : HartIn w p h) (hl : h.mem.length ≤ 1048576) (s0 : 0 ≤ h.satp) (s1 : h.satp ≤ 18446744073709551615) (t0 : 0 ≤ h.tvec) (h8 : h.regs.length = 8) :
    Calls Try.prog 42 #[.agg (hartA p h)] w fun e w' => e = .returned (.bool (sizeM h.mem.length && plainHM h)) ∧ Below w.heap.size w w' := by
  have F := alloc1 w (hartA p h) 31
  have A0 : Hid ((hartA p h)[0]? = some (.slice p.am h.mem.length p.cm)) := by show _ = _; rfl
  have A1 : Hid ((hartA p h)[1]? = some (.slice p.ar h.regs.length p.cr)) := by show _ = _; rfl
  have A3 : Hid ((hartA p h)[3]? = some (.int .i64 h.mode)) := by show _ = _; rfl
  have A6 : Hid ((hartA p h)[6]? = some (.int .u64 h.satp)) := by show _ = _; rfl
  have A7 : Hid ((hartA p h)[7]? = some (.int .u64 h.tvec)) := by show _ = _; rfl
  have A9 : Hid ((hartA p h)[9]? = some (.int .i64 h.emode)) := by show _ = _; rfl
  have A10 : Hid ((hartA p h)[10]? = some (.int .i64 h.cause)) := by show _ = _; rfl
  obtain ⟨R, hR⟩ : ∃ R, (sizeM h.mem.length && plainHM h) = R := ⟨_, rfl⟩
  have HF : Hid (R = true → vhCore h) := fun hr => (core_iff h).1 (hR.trans hr)
  have HT : Hid (vhCore h → R = true) := fun h1 => hR.symm.trans ((core_iff h).2 h1)
  unfold vhCore at HF HT
  rw [hR]
  have P1 : Hid (∀ u, Calls Try.prog 62 #[.int .i64 h.mem.length] u fun e w' => e = .returned (.bool (sizeM h.mem.length)) ∧ w' = u) := fun u => wholePages_at h.mem.length u hl
  have P2 : Hid (∀ m u, Calls Try.prog 48 #[.int .i64 m] u fun e w' => e = .returned (.bool (decide (0 ≤ m ∧ m ≤ 2))) ∧ w' = u) := fun m u => knownMode_at m u
  have P3 : Hid (∀ u, Calls Try.prog 49 #[.int .u64 h.satp] u fun e w' => e = .returned (.bool (schemeM h.satp)) ∧ w' = u) := fun u => knownScheme_at h.satp u s0 s1
  obtain ⟨rb, ro, hra, rlt, rc⟩ := row_first hi.regs h8
  have g8 : (h.regs.length : Int) = 8 := by omega
  rw [hra] at A1
  clear hi hR h8
  generalize hartA p h = A at *
  generalize h.mem.length = n at *
  generalize h.regs.length = m at *
  generalize h.regs[0]?.getD 0 = r0 at *
  go_enter Try.func42, Try.ntmps42
  go_upto_region 1 with fail
  generalize (w.alloc (Obj.cells A 31)) = u0 at F ⊢
  obtain ⟨f1, hz, nB⟩ := F
  have H1 : Hid _ := f1
  clear f1
  have m8 : m = 8 := by omega
  subst m8
  have x0 : u0.cell? ⟨rb, ro, none⟩ = some (.int .u64 r0) := (nB.cell (by exact rlt)).trans rc
  clear rc
  have c0 := box_cell H1.out 0 A0.out
  have c1 := box_cell H1.out 1 A1.out
  have c3 := box_cell H1.out 3 A3.out
  have c6 := box_cell H1.out 6 A6.out
  have c7 := box_cell H1.out 7 A7.out
  have c9 := box_cell H1.out 9 A9.out
  have c10 := box_cell H1.out 10 A10.out
  go_wp2_with fail
  refine (P1.out u0).mono ?_
  rintro e _ ⟨rfl, rfl⟩
  by_cases hzz : (n : Int) % 64 = 0 ∧ 64 ≤ (n : Int) ∧ (n : Int) ≤ 4096
  rotate_left 1
  · rw [show sizeM n = false from (by unfold sizeM; exact decide_eq_false (by omega))]
    go_wp2_with fail
    any_goals (
      go_ret
      refine ⟨?_, nB⟩
      have hq : R = false := (by
        cases R with
        | false => rfl
        | true =>
          obtain ⟨⟨q1, q2, q3⟩, q4, q5, ⟨q6, q7⟩, ⟨q8, q9⟩, q10, q11, ⟨q12, q13⟩⟩ := HF.out rfl
          first
          | (exfalso; omega)
          | (simp_all))
      subst hq
      exact rfl)
  rw [show sizeM n = true from (by unfold sizeM; exact decide_eq_true (by omega))]
  by_cases hr0 : r0 = 0
  rotate_left 1
  · have dr : (r0 != 0) = true := by simpa using hr0
    go_wp2_with fail
    any_goals (
      go_ret
      refine ⟨?_, nB⟩
      have hq : R = false := (by
        cases R with
        | false => rfl
        | true =>
          obtain ⟨⟨q1, q2, q3⟩, q4, q5, ⟨q6, q7⟩, ⟨q8, q9⟩, q10, q11, ⟨q12, q13⟩⟩ := HF.out rfl
          first
          | (exfalso; omega)
          | (simp_all))
      subst hq
      exact rfl)
  subst hr0
  go_wp2_with fail
  refine (P2.out h.mode _).mono ?_
  rintro e _ ⟨rfl, rfl⟩
  by_cases hm : 0 ≤ h.mode ∧ h.mode ≤ 2
  rotate_left 1
  · rw [decide_eq_false hm]
    go_wp2_with fail
    any_goals (
      go_ret
      refine ⟨?_, nB⟩
      have hq : R = false := (by
        cases R with
        | false => rfl
        | true =>
          obtain ⟨⟨q1, q2, q3⟩, q4, q5, ⟨q6, q7⟩, ⟨q8, q9⟩, q10, q11, ⟨q12, q13⟩⟩ := HF.out rfl
          first
          | (exfalso; omega)
          | (simp_all))
      subst hq
      exact rfl)
  rw [decide_eq_true hm]
  have HM : Hid _ := hm
  clear hm
  go_wp2_with fail
  refine (P2.out h.emode _).mono ?_
  rintro e _ ⟨rfl, rfl⟩
  by_cases he : 0 ≤ h.emode ∧ h.emode ≤ 2
  rotate_left 1
  · rw [decide_eq_false he]
    go_wp2_with fail
    any_goals (
      go_ret
      refine ⟨?_, nB⟩
      have hq : R = false := (by
        cases R with
        | false => rfl
        | true =>
          obtain ⟨⟨q1, q2, q3⟩, q4, q5, ⟨q6, q7⟩, ⟨q8, q9⟩, q10, q11, ⟨q12, q13⟩⟩ := HF.out rfl
          first
          | (exfalso; omega)
          | (simp_all))
      subst hq
      exact rfl)
  rw [decide_eq_true he]
  have HE : Hid _ := he
  clear he
  go_wp2_with fail
  any_goals (
    go_ret
    refine ⟨?_, nB⟩
    have hq : R = false := (by
      cases R with
      | false => rfl
      | true =>
        obtain ⟨⟨q1, q2, q3⟩, q4, q5, ⟨q6, q7⟩, ⟨q8, q9⟩, q10, q11, ⟨q12, q13⟩⟩ := HF.out rfl
        first
        | (exfalso; omega)
        | (simp_all))
    subst hq
    exact rfl)
  refine (P3.out _).mono ?_
  rintro e _ ⟨rfl, rfl⟩
  rcases Bool.eq_false_or_eq_true (schemeM h.satp) with hs | hs
  rotate_left 1
  · rw [hs]
    go_wp2_with fail
    any_goals (
      go_ret
      refine ⟨?_, nB⟩
      have hq : R = false := (by
        cases R with
        | false => rfl
        | true =>
          obtain ⟨⟨q1, q2, q3⟩, q4, q5, ⟨q6, q7⟩, ⟨q8, q9⟩, q10, q11, ⟨q12, q13⟩⟩ := HF.out rfl
          first
          | (exfalso; omega)
          | (simp_all))
      subst hq
      exact rfl)
  rw [hs]
  have HS : Hid _ := hs
  clear hs
  by_cases h4 : h.tvec % 4 = 0
  · have hq : R = true := HT.out ⟨hzz, by first | trivial | rfl | omega, by first | trivial | rfl | omega, HM.out, HE.out, HS.out, h4, ⟨by omega, by omega⟩⟩
    subst hq
    go_wp2_with fail
    go_ret
    exact ⟨rfl, nB⟩
  · have hq : R = false := (by
      cases R with
      | false => rfl
      | true =>
        obtain ⟨⟨q1, q2, q3⟩, q4, q5, ⟨q6, q7⟩, ⟨q8, q9⟩, q10, q11, ⟨q12, q13⟩⟩ := HF.out rfl
        exfalso
        omega)
    subst hq
    have d4 : (h.tvec % 4 == 0) = false := by simpa using h4
    go_wp2_with fail
    go_ret
    exact ⟨rfl, nB⟩

set_option maxRecDepth 20000 in
set_option maxHeartbeats 3200000 in
theorem validCore_n (p : PtrM) (h : HartM) (w : World) (hi : HartIn w p h) (hl : h.mem.length ≤ 1048576) (s0 : 0 ≤ h.satp) (s1 : h.satp ≤ 18446744073709551615) (t0 : 0 ≤ h.tvec) (h8 : ¬ h.regs.length = 8) :
    Calls Try.prog 42 #[.agg (hartA p h)] w fun e w' => e = .returned (.bool (sizeM h.mem.length && plainHM h)) ∧ Below w.heap.size w w' := by
  have F := alloc1 w (hartA p h) 31
  have A0 : Hid ((hartA p h)[0]? = some (.slice p.am h.mem.length p.cm)) := by show _ = _; rfl
  have A1 : Hid ((hartA p h)[1]? = some (.slice p.ar h.regs.length p.cr)) := by show _ = _; rfl
  have A3 : Hid ((hartA p h)[3]? = some (.int .i64 h.mode)) := by show _ = _; rfl
  have A6 : Hid ((hartA p h)[6]? = some (.int .u64 h.satp)) := by show _ = _; rfl
  have A7 : Hid ((hartA p h)[7]? = some (.int .u64 h.tvec)) := by show _ = _; rfl
  have A9 : Hid ((hartA p h)[9]? = some (.int .i64 h.emode)) := by show _ = _; rfl
  have A10 : Hid ((hartA p h)[10]? = some (.int .i64 h.cause)) := by show _ = _; rfl
  obtain ⟨R, hR⟩ : ∃ R, (sizeM h.mem.length && plainHM h) = R := ⟨_, rfl⟩
  have HF : Hid (R = true → vhCore h) := fun hr => (core_iff h).1 (hR.trans hr)
  have HT : Hid (vhCore h → R = true) := fun h1 => hR.symm.trans ((core_iff h).2 h1)
  unfold vhCore at HF HT
  rw [hR]
  have P1 : Hid (∀ u, Calls Try.prog 62 #[.int .i64 h.mem.length] u fun e w' => e = .returned (.bool (sizeM h.mem.length)) ∧ w' = u) := fun u => wholePages_at h.mem.length u hl
  have P2 : Hid (∀ m u, Calls Try.prog 48 #[.int .i64 m] u fun e w' => e = .returned (.bool (decide (0 ≤ m ∧ m ≤ 2))) ∧ w' = u) := fun m u => knownMode_at m u
  have P3 : Hid (∀ u, Calls Try.prog 49 #[.int .u64 h.satp] u fun e w' => e = .returned (.bool (schemeM h.satp)) ∧ w' = u) := fun u => knownScheme_at h.satp u s0 s1
  have g8 : ¬ (h.regs.length : Int) = 8 := by omega
  clear hi hR h8
  generalize hartA p h = A at *
  generalize h.mem.length = n at *
  generalize h.regs.length = m at *
  generalize h.regs[0]?.getD 0 = r0 at *
  go_enter Try.func42, Try.ntmps42
  go_upto_region 1 with fail
  generalize (w.alloc (Obj.cells A 31)) = u0 at F ⊢
  obtain ⟨f1, hz, nB⟩ := F
  have H1 : Hid _ := f1
  clear f1
  have c0 := box_cell H1.out 0 A0.out
  have c1 := box_cell H1.out 1 A1.out
  have c3 := box_cell H1.out 3 A3.out
  have c6 := box_cell H1.out 6 A6.out
  have c7 := box_cell H1.out 7 A7.out
  have c9 := box_cell H1.out 9 A9.out
  have c10 := box_cell H1.out 10 A10.out
  go_wp2_with fail
  refine (P1.out u0).mono ?_
  rintro e _ ⟨rfl, rfl⟩
  by_cases hzz : (n : Int) % 64 = 0 ∧ 64 ≤ (n : Int) ∧ (n : Int) ≤ 4096
  rotate_left 1
  · rw [show sizeM n = false from (by unfold sizeM; exact decide_eq_false (by omega))]
    go_wp2_with fail
    any_goals (
      go_ret
      refine ⟨?_, nB⟩
      have hq : R = false := (by
        cases R with
        | false => rfl
        | true =>
          obtain ⟨⟨q1, q2, q3⟩, q4, q5, ⟨q6, q7⟩, ⟨q8, q9⟩, q10, q11, ⟨q12, q13⟩⟩ := HF.out rfl
          first
          | (exfalso; omega)
          | (simp_all))
      subst hq
      exact rfl)
  rw [show sizeM n = true from (by unfold sizeM; exact decide_eq_true (by omega))]
  go_wp2_with fail
  any_goals (
    go_ret
    refine ⟨?_, nB⟩
    have hq : R = false := (by
      cases R with
      | false => rfl
      | true =>
        obtain ⟨⟨q1, q2, q3⟩, q4, q5, ⟨q6, q7⟩, ⟨q8, q9⟩, q10, q11, ⟨q12, q13⟩⟩ := HF.out rfl
        first
        | (exfalso; omega)
        | (simp_all))
    subst hq
    exact rfl)

theorem validCore_any (p : PtrM) (h : HartM) (w : World) (hi : HartIn w p h) (hl : h.mem.length ≤ 1048576) (s0 : 0 ≤ h.satp) (s1 : h.satp ≤ 18446744073709551615) (t0 : 0 ≤ h.tvec) :
    Calls Try.prog 42 #[.agg (hartA p h)] w fun e w' => e = .returned (.bool (sizeM h.mem.length && plainHM h)) ∧ Below w.heap.size w w' := by
  by_cases h8 : h.regs.length = 8
  · exact validCore_8 p h w hi hl s0 s1 t0 h8
  · exact validCore_n p h w hi hl s0 s1 t0 h8

set_option maxRecDepth 20000 in
set_option maxHeartbeats 1600000 in
theorem implValidHart_any (p : PtrM) (h : HartM) (w : World) (hi : HartIn w p h) (hl : h.mem.length ≤ 1048576) (s0 : 0 ≤ h.satp) (s1 : h.satp ≤ 18446744073709551615) (t0 : 0 ≤ h.tvec) :
    Calls Try.prog 16 #[.agg (hartA p h)] w fun e w' => e = .returned (.bool (validHM h)) ∧ Below w.heap.size w w' := by
  have F := alloc1 w (hartA p h) 31
  have KP : Hid (((hartA p h).toList.drop 12).take 9 = (kA p h.k).toList) := by show _ = _; rfl
  have SA : Hid ((hartA p h).size = 21) := rfl
  have C1 : Hid (∀ u, Below w.heap.size w u → Calls Try.prog 41 #[.agg (kA p h.k)] u fun e w' => cond (goodKM h.k) (SetAns u.heap.size w' e h.k) (e = .returned (.tuple #[.agg #[.int .i64 0, .int .i64 0, .slice none 0 0, .int .i64 0, .int .i64 0, .slice none 0 0, .int .i64 0, .int .i64 0, .slice none 0 0], .bool false])) ∧ Below u.heap.size u w') := fun u hu => cacheSetOf_any _ h.k u (hi.ks.keep hu)
  have C2 : Hid (∀ u, Below w.heap.size w u → Calls Try.prog 42 #[.agg (hartA p h)] u fun e w' => e = .returned (.bool (sizeM h.mem.length && plainHM h)) ∧ Below u.heap.size u w') := fun u hu => validCore_any p h u (hi.keep hu) hl s0 s1 t0
  obtain ⟨V, hV⟩ : ∃ V, validHM h = V := ⟨_, rfl⟩
  have HV1 : Hid (goodKM h.k = true → (sizeM h.mem.length && plainHM h) = V) := fun hg => by rw [← hV, validHM, hg, Bool.and_true]
  have HV0 : Hid (goodKM h.k = false → false = V) := fun hg => by rw [← hV, validHM, hg, Bool.and_false]
  rw [hV]
  clear hi hV
  generalize (sizeM h.mem.length && plainHM h) = R at *
  generalize hartA p h = A at *
  go_enter Try.func16, Try.ntmps16
  go_upto_region 1 with fail
  generalize (w.alloc (Obj.cells A 31)) = u0 at F ⊢
  obtain ⟨f1, hz, nB⟩ := F
  have H1 : Hid _ := f1
  clear f1
  have J1 : Hid _ := box_load (P := Try.prog) (T := 29) H1.out Try.underlying29 rfl (o := 12) (kA p h.k).toList kI KP.out rfl
  rw [show (kA p h.k).toList.toArray = kA p h.k from rfl] at J1
  generalize kA p h.k = KA at *
  go_wp2_with (first | ((with_reducible refine wpl_load ?_ J1.out ?_); (exact rfl)))
  refine (C1.out u0 nB).mono ?_
  rintro e u1 ⟨hc, k1⟩
  replace nB := Below.step nB k1 (Nat.le_refl _)
  replace H1 := hid_keep H1 k1
  clear J1 k1
  rcases Bool.eq_false_or_eq_true (goodKM h.k) with hg | hg
  · rw [hg] at hc
    obtain ⟨gi, gd, gp, rfl, _⟩ := hc
    have hv := HV1.out hg
    subst hv
    clear HV1 HV0
    have l1 : w.heap.size < u1.heap.size := by have := (Array.getElem?_eq_some_iff.1 H1.out).1; exact this
    unfold setC
    go_upto_region 2 with fail
    have n2 : Below w.heap.size w (u1.alloc (Obj.cells #[Value.int .i64 h.k.i.sets, Value.int .i64 h.k.i.ways, Value.slice (some ⟨gi, 0, none⟩) h.k.i.es.length h.k.i.es.length, Value.int .i64 h.k.d.sets, Value.int .i64 h.k.d.ways, Value.slice (some ⟨gd, 0, none⟩) h.k.d.es.length h.k.d.es.length, Value.int .i64 h.k.p.sets, Value.int .i64 h.k.p.ways, Value.slice (some ⟨gp, 0, none⟩) h.k.p.es.length h.k.p.es.length] 84)) := nB.alloc nB.size _
    have H2 : Hid ((u1.alloc (Obj.cells #[Value.int .i64 h.k.i.sets, Value.int .i64 h.k.i.ways, Value.slice (some ⟨gi, 0, none⟩) h.k.i.es.length h.k.i.es.length, Value.int .i64 h.k.d.sets, Value.int .i64 h.k.d.ways, Value.slice (some ⟨gd, 0, none⟩) h.k.d.es.length h.k.d.es.length, Value.int .i64 h.k.p.sets, Value.int .i64 h.k.p.ways, Value.slice (some ⟨gp, 0, none⟩) h.k.p.es.length h.k.p.es.length] 84)).heap[w.heap.size]? = some (.cells A 31 (0, 0))) := (heap_alloc_old u1 _ l1).trans H1.out
    generalize u1.alloc (Obj.cells #[Value.int .i64 h.k.i.sets, Value.int .i64 h.k.i.ways, Value.slice (some ⟨gi, 0, none⟩) h.k.i.es.length h.k.i.es.length, Value.int .i64 h.k.d.sets, Value.int .i64 h.k.d.ways, Value.slice (some ⟨gd, 0, none⟩) h.k.d.es.length h.k.d.es.length, Value.int .i64 h.k.p.sets, Value.int .i64 h.k.p.ways, Value.slice (some ⟨gp, 0, none⟩) h.k.p.es.length h.k.p.es.length] 84) = u2 at n2 H2 ⊢
    have J2 : Hid _ := box_whole (P := Try.prog) (T := 31) H2.out Try.underlying31 rfl (by rw [SA.out]; exact hartI)
    go_wp2_with (first | ((with_reducible refine wpl_loadg ?_ ?_ J2.out ?_); (exact rfl); (exact rfl)))
    refine (C2.out u2 n2).mono ?_
    rintro e u3 ⟨rfl, k3⟩
    replace n2 := Below.step n2 k3 (Nat.le_refl _)
    clear k3 H2 J2
    go_wp2_with fail
    go_ret
    exact ⟨rfl, n2⟩
  · rw [hg] at hc
    obtain rfl := hc
    have hv := HV0.out hg
    subst hv
    clear HV1 HV0
    go_wp2_with fail
    go_ret
    exact ⟨rfl, nB.alloc nB.size _⟩

end Go.Proofs.Ythekickjjaleaac
