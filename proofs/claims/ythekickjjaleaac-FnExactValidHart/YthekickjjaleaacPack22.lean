import Derived.Test.YthekickjjaleaacPack14
import Derived.Test.YthekickjjaleaacPack16
/- The laws' helper markHart. -/
namespace Go.Proofs.Ythekickjjaleaac
open Go.RowKit
set_option linter.unusedVariables false
attribute [local go_sem ↓] Go.wp_at_zero Go.wp_at_succ

set_option maxRecDepth 20000 in
set_option maxHeartbeats 1600000 in
theorem markHart_own (base : Nat) (p : PtrM) (h : HartM) (cm cr c1 c2 c3 : List Value) (k0 : Int) (w : World) (ho : HartO base w p h cm cr c1 c2 c3) (hb : HartB h) (hk0 : 0 ≤ k0) (hk1 : k0 + h.mem.length + h.regs.length ≤ 1048577) :
    Calls Try.prog 31 #[.agg (hartA p h), .int .i64 k0] w fun e w' => e = .returned (.int .i64 (k0 + h.mem.length + h.regs.length + h.k.i.es.length * 6 + h.k.d.es.length * 6 + h.k.p.es.length * 6)) ∧ HartO base w' p h (mkF (mkByteS k0) h.mem.length) (mkF (mkUint64S (k0 + h.mem.length)) h.regs.length) (mkEs (k0 + h.mem.length + h.regs.length) (h.k.i.es.length * 6)) (mkEs (k0 + h.mem.length + h.regs.length + h.k.i.es.length * 6) (h.k.d.es.length * 6)) (mkEs (k0 + h.mem.length + h.regs.length + h.k.i.es.length * 6 + h.k.d.es.length * 6) (h.k.p.es.length * 6)) ∧ Mid (hrows p h) w w' := by
  have F := alloc1 w (hartA p h) 31
  have A0 : Hid ((hartA p h)[0]? = some (.slice p.am h.mem.length p.cm)) := by show _ = _; rfl
  have A1 : Hid ((hartA p h)[1]? = some (.slice p.ar h.regs.length p.cr)) := by show _ = _; rfl
  have KP : Hid (((hartA p h).toList.drop 12).take 9 = (kA p h.k).toList) := by show _ = _; rfl
  obtain ⟨om, or', o1, o2, o3, d12, d13, d23⟩ := ho
  have CM : Hid (∀ u, u.ownsRow base 5 1 (.slice p.am h.mem.length p.cm) h.mem.length cm → Calls Try.prog 10 #[.slice p.am h.mem.length p.cm, .int .i64 k0] u fun e w' => e = .returned (.int .i64 (k0 + h.mem.length)) ∧ w'.ownsRow base 5 1 (.slice p.am h.mem.length p.cm) h.mem.length (mkF (mkByteS k0) h.mem.length) ∧ u.grownBy w' (Value.slice p.am h.mem.length p.cm).ownBlock) := fun u hu => markByteS_own base _ _ cm k0 u hu hb.m hk0 (by omega)
  have CR : Hid (∀ u, u.ownsRow base 24 1 (.slice p.ar h.regs.length p.cr) h.regs.length cr → Calls Try.prog 52 #[.slice p.ar h.regs.length p.cr, .int .i64 (k0 + h.mem.length)] u fun e w' => e = .returned (.int .i64 (k0 + h.mem.length + h.regs.length)) ∧ w'.ownsRow base 24 1 (.slice p.ar h.regs.length p.cr) h.regs.length (mkF (mkUint64S (k0 + h.mem.length)) h.regs.length) ∧ u.grownBy w' (Value.slice p.ar h.regs.length p.cr).ownBlock) := fun u hu => markUint64S_own base _ _ cr (k0 + h.mem.length) u hu hb.r (by omega) (by omega)
  have CK : Hid (∀ u, u.ownsRow base 91 6 (.slice p.a1 h.k.i.es.length p.c1) h.k.i.es.length c1 → u.ownsRow base 91 6 (.slice p.a2 h.k.d.es.length p.c2) h.k.d.es.length c2 → u.ownsRow base 91 6 (.slice p.a3 h.k.p.es.length p.c3) h.k.p.es.length c3 →
      Calls Try.prog 53 #[.agg (kA p h.k), .int .i64 (k0 + h.mem.length + h.regs.length)] u fun e w' => e = .returned (.int .i64 (k0 + h.mem.length + h.regs.length + h.k.i.es.length * 6 + h.k.d.es.length * 6 + h.k.p.es.length * 6)) ∧ (w'.ownsRow base 91 6 (.slice p.a1 h.k.i.es.length p.c1) h.k.i.es.length (mkEs (k0 + h.mem.length + h.regs.length) (h.k.i.es.length * 6)) ∧ w'.ownsRow base 91 6 (.slice p.a2 h.k.d.es.length p.c2) h.k.d.es.length (mkEs (k0 + h.mem.length + h.regs.length + h.k.i.es.length * 6) (h.k.d.es.length * 6)) ∧ w'.ownsRow base 91 6 (.slice p.a3 h.k.p.es.length p.c3) h.k.p.es.length (mkEs (k0 + h.mem.length + h.regs.length + h.k.i.es.length * 6 + h.k.d.es.length * 6) (h.k.p.es.length * 6))) ∧ Mid (inRows (.slice p.a1 h.k.i.es.length p.c1) (.slice p.a2 h.k.d.es.length p.c2) (.slice p.a3 h.k.p.es.length p.c3)) u w') := fun u h1 h2 h3 => markCaches_own h.k base _ _ _ c1 c2 c3 (k0 + h.mem.length + h.regs.length) u h1 h2 h3 d12 d13 d23 hb.k1 hb.k2 hb.k3 (by omega) hk1
  have OM : Hid _ := om
  have OR : Hid _ := or'
  have O1 : Hid _ := o1
  have O2 : Hid _ := o2
  have O3 : Hid _ := o3
  have D12 : Hid _ := d12
  have D13 : Hid _ := d13
  have D23 : Hid _ := d23
  clear om or' o1 o2 o3 d12 d13 d23
  have b1 := hb.m
  have b2 := hb.r
  have b3 := hb.k1
  have b4 := hb.k2
  have b5 := hb.k3
  clear hb
  generalize hartA p h = A at *
  go_enter Try.func31, Try.ntmps31
  go_upto_region 1 with fail
  generalize (w.alloc (Obj.cells A 31)) = u0 at F ⊢
  obtain ⟨f1, hz, n0⟩ := F
  have H1 : Hid _ := f1
  clear f1
  replace OM : Hid _ := own_below OM.out n0
  replace OR : Hid _ := own_below OR.out n0
  replace O1 : Hid _ := own_below O1.out n0
  replace O2 : Hid _ := own_below O2.out n0
  replace O3 : Hid _ := own_below O3.out n0
  have c0 := box_cell H1.out 0 A0.out
  go_wp2_with fail
  refine (CM.out u0 OM.out).mono ?_
  rintro e u1 ⟨rfl, om', gm⟩
  have OM' : Hid _ := om'
  have GM : Hid _ := gm
  have Y1 : Hid _ := heap_own H1.out gm (box_own_ne OM.out H1.out (by decide))
  replace OR : Hid _ := own_kept OR.out gm (own_apart OR.out OM.out (by decide))
  replace O1 : Hid _ := own_kept O1.out gm (own_apart O1.out OM.out (by decide))
  replace O2 : Hid _ := own_kept O2.out gm (own_apart O2.out OM.out (by decide))
  replace O3 : Hid _ := own_kept O3.out gm (own_apart O3.out OM.out (by decide))
  clear om' gm c0 H1
  have c1 := box_cell Y1.out 1 A1.out
  go_wp2_with fail
  refine (CR.out u1 OR.out).mono ?_
  rintro e u2 ⟨rfl, or', gr⟩
  have OR' : Hid _ := or'
  have GR : Hid _ := gr
  have Z1 : Hid _ := heap_own Y1.out gr (box_own_ne OR.out Y1.out (by decide))
  replace OM' : Hid _ := own_kept OM'.out gr (own_apart OM'.out OR.out (by decide))
  replace O1 : Hid _ := own_kept O1.out gr (own_apart O1.out OR.out (by decide))
  replace O2 : Hid _ := own_kept O2.out gr (own_apart O2.out OR.out (by decide))
  replace O3 : Hid _ := own_kept O3.out gr (own_apart O3.out OR.out (by decide))
  clear or' gr c1 Y1
  have J1 : Hid _ := box_load (P := Try.prog) (T := 29) Z1.out Try.underlying29 rfl (o := 12) (kA p h.k).toList kI KP.out rfl
  rw [show (kA p h.k).toList.toArray = kA p h.k from rfl] at J1
  generalize kA p h.k = KA at *
  go_wp2_with (first | ((with_reducible refine wpl_load ?_ J1.out ?_); (exact rfl)))
  refine (CK.out u2 O1.out O2.out O3.out).mono ?_
  rintro e u3 ⟨rfl, ⟨hk1', hk2', hk3'⟩, md⟩
  have am : ∀ g, (Value.slice p.am h.mem.length p.cm).ownBlock = some g → ¬ inRows (.slice p.a1 h.k.i.es.length p.c1) (.slice p.a2 h.k.d.es.length p.c2) (.slice p.a3 h.k.p.es.length p.c3) g := by
    rintro g hg (h1 | h1 | h1)
    · exact own_apart O1.out OM'.out (by decide) g h1 hg
    · exact own_apart O2.out OM'.out (by decide) g h1 hg
    · exact own_apart O3.out OM'.out (by decide) g h1 hg
  have ar : ∀ g, (Value.slice p.ar h.regs.length p.cr).ownBlock = some g → ¬ inRows (.slice p.a1 h.k.i.es.length p.c1) (.slice p.a2 h.k.d.es.length p.c2) (.slice p.a3 h.k.p.es.length p.c3) g := by
    rintro g hg (h1 | h1 | h1)
    · exact own_apart O1.out OR'.out (by decide) g h1 hg
    · exact own_apart O2.out OR'.out (by decide) g h1 hg
    · exact own_apart O3.out OR'.out (by decide) g h1 hg
  have M1 : Mid (hrows p h) w u3 := (Mid.of_below n0).trans ((Mid.of_gb GM.out (fun g hg => .inl hg)).trans ((Mid.of_gb GR.out (fun g hg => .inr (.inl hg))).trans ⟨md.os, md.tape, md.output, md.size, fun i hi hn => md.block i hi (fun hh => hn (.inr (.inr hh)))⟩))
  have HF : Hid (HartO base u3 p h (mkF (mkByteS k0) h.mem.length) (mkF (mkUint64S (k0 + h.mem.length)) h.regs.length) (mkEs (k0 + h.mem.length + h.regs.length) (h.k.i.es.length * 6)) (mkEs (k0 + h.mem.length + h.regs.length + h.k.i.es.length * 6) (h.k.d.es.length * 6)) (mkEs (k0 + h.mem.length + h.regs.length + h.k.i.es.length * 6 + h.k.d.es.length * 6) (h.k.p.es.length * 6)) ∧ Mid (hrows p h) w u3) := ⟨⟨md.own OM'.out am, md.own OR'.out ar, hk1', hk2', hk3', D12.out, D13.out, D23.out⟩, M1⟩
  clear M1 am ar hk1' hk2' hk3' md OM OR O1 O2 O3 OM' OR' Z1 J1
  go_wp2_with fail
  go_ret
  exact ⟨rfl, HF.out⟩

end Go.Proofs.Ythekickjjaleaac

/- The laws' helpers heldHart, eqScript. -/
namespace Go.Proofs.Ythekickjjaleaac
open Go.RowKit
set_option linter.unusedVariables false
attribute [local go_sem ↓] Go.wp_at_zero Go.wp_at_succ

set_option maxRecDepth 20000 in
set_option maxHeartbeats 1600000 in
theorem heldHart_own (base : Nat) (p : PtrM) (h : HartM) (k0 : Int) (w : World) (ho : HartO base w p h (mkF (mkByteS k0) h.mem.length) (mkF (mkUint64S (k0 + h.mem.length)) h.regs.length) (mkEs (k0 + h.mem.length + h.regs.length) (h.k.i.es.length * 6)) (mkEs (k0 + h.mem.length + h.regs.length + h.k.i.es.length * 6) (h.k.d.es.length * 6)) (mkEs (k0 + h.mem.length + h.regs.length + h.k.i.es.length * 6 + h.k.d.es.length * 6) (h.k.p.es.length * 6))) (hb : HartB h) (hk0 : 0 ≤ k0) (hk1 : k0 + h.mem.length + h.regs.length ≤ 1048577) :
    Calls Try.prog 33 #[.agg (hartA p h), .int .i64 k0] w fun e w' => e = .returned (.int .i64 (k0 + h.mem.length + h.regs.length + h.k.i.es.length * 6 + h.k.d.es.length * 6 + h.k.p.es.length * 6)) ∧ Below w.heap.size w w' := by
  have F := alloc1 w (hartA p h) 31
  have A0 : Hid ((hartA p h)[0]? = some (.slice p.am h.mem.length p.cm)) := by show _ = _; rfl
  have A1 : Hid ((hartA p h)[1]? = some (.slice p.ar h.regs.length p.cr)) := by show _ = _; rfl
  have KP : Hid (((hartA p h).toList.drop 12).take 9 = (kA p h.k).toList) := by show _ = _; rfl
  have CM : Hid (∀ u, Below w.heap.size w u → Calls Try.prog 54 #[.slice p.am h.mem.length p.cm, .int .i64 k0] u fun e w' => e = .returned (.int .i64 (k0 + h.mem.length)) ∧ w' = u) := fun u hu => heldByteS_own base _ _ k0 u (own_below ho.mem hu) hb.m hk0 (by omega)
  have CR : Hid (∀ u, Below w.heap.size w u → Calls Try.prog 55 #[.slice p.ar h.regs.length p.cr, .int .i64 (k0 + h.mem.length)] u fun e w' => e = .returned (.int .i64 (k0 + h.mem.length + h.regs.length)) ∧ w' = u) := fun u hu => heldUint64S_own base _ _ (k0 + h.mem.length) u (own_below ho.regs hu) hb.r (by omega) (by omega)
  have CK : Hid (∀ u, Below w.heap.size w u → Calls Try.prog 56 #[.agg (kA p h.k), .int .i64 (k0 + h.mem.length + h.regs.length)] u fun e w' => e = .returned (.int .i64 (k0 + h.mem.length + h.regs.length + h.k.i.es.length * 6 + h.k.d.es.length * 6 + h.k.p.es.length * 6)) ∧ Below u.heap.size u w') := fun u hu => heldCaches_own h.k base _ _ _ (k0 + h.mem.length + h.regs.length) u ⟨own_below ho.r1 hu, own_below ho.r2 hu, own_below ho.r3 hu⟩ hb.k1 hb.k2 hb.k3 (by omega) hk1
  have b1 := hb.m
  have b2 := hb.r
  have b3 := hb.k1
  have b4 := hb.k2
  have b5 := hb.k3
  clear hb ho
  generalize h.mem.length = LM at *
  generalize h.regs.length = LR at *
  generalize h.k.i.es.length = L1 at *
  generalize h.k.d.es.length = L2 at *
  generalize h.k.p.es.length = L3 at *
  generalize hartA p h = A at *
  have q1 : decide (k0 + (LM : Int) < 0) = false := by simp; omega
  have q2 : decide (k0 + (LM : Int) + (LR : Int) < 0) = false := by simp; omega
  have q3 : decide (k0 + (LM : Int) + (LR : Int) + (L1 : Int) * 6 + (L2 : Int) * 6 + (L3 : Int) * 6 < 0) = false := by simp; omega
  go_enter Try.func33, Try.ntmps33
  go_upto_region 1 with fail
  generalize (w.alloc (Obj.cells A 31)) = u0 at F ⊢
  obtain ⟨f1, hz, n0⟩ := F
  have H1 : Hid _ := f1
  clear f1
  have c0 := box_cell H1.out 0 A0.out
  have c1 := box_cell H1.out 1 A1.out
  have J1 : Hid _ := box_load (P := Try.prog) (T := 29) H1.out Try.underlying29 rfl (o := 12) (kA p h.k).toList kI KP.out rfl
  rw [show (kA p h.k).toList.toArray = kA p h.k from rfl] at J1
  generalize kA p h.k = KA at *
  go_wp2_with fail
  refine (CM.out u0 n0).mono ?_
  rintro e _ ⟨rfl, rfl⟩
  go_wp2_with fail
  refine (CR.out _ n0).mono ?_
  rintro e _ ⟨rfl, rfl⟩
  go_wp2_with (first | ((with_reducible refine wpl_load ?_ J1.out ?_); (exact rfl)))
  refine (CK.out _ n0).mono ?_
  rintro e u3 ⟨rfl, m3⟩
  have n3 := Below.step n0 m3 (Nat.le_refl _)
  clear c0 c1 H1 J1 m3
  go_wp2_with fail
  go_ret
  exact ⟨rfl, n3⟩

theorem script_hart (p : PtrM) (pa : Option Addr) (pc : Nat) (h : HartM) (ps : List Int) : ((scriptA p pa pc h ps).toList.drop 0).take 21 = (hartA p h).toList := rfl
theorem script_pick (p : PtrM) (pa : Option Addr) (pc : Nat) (h : HartM) (ps : List Int) : (scriptA p pa pc h ps)[21]? = some (.slice pa ps.length pc) := rfl

set_option maxRecDepth 20000 in
set_option maxHeartbeats 1600000 in
theorem eqScript_row (p q : PtrM) (h : HartM) (pa qa : Option Addr) (pc qc : Nat) (ps : List Int) (w : World) (hp : HartR w p h) (hq : HartR w q h) (hb : HartB h) (rp : RowC w pa ps.length 1 (picksC ps)) (rq : RowC w qa ps.length 1 (picksC ps)) (hl : ps.length ≤ 1048576) :
    Calls Try.prog 8 #[.agg (scriptA p pa pc h ps), .agg (scriptA q qa qc h ps)] w fun e w' => e = .returned (.bool true) ∧ Below w.heap.size w w' := by
  have E1 : Hid (∀ u, Below w.heap.size w u → Calls Try.prog 17 #[.agg (hartA p h), .agg (hartA q h)] u fun e w' => e = .returned (.bool true) ∧ Below u.heap.size u w') := fun u hu => eqHart_row p q h u (hp.keep hu) (hq.keep hu) hb
  have E2 : Hid (∀ u, Below w.heap.size w u → Calls Try.prog 30 #[.slice pa ps.length pc, .slice qa ps.length qc] u fun e w' => e = .returned (.bool true) ∧ Below u.heap.size u w') := fun u hu => (eqInt64S_same _ _ _ _ _ ps u (rp.keep hu) (rq.keep hu) hl).mono (by
    rintro e w' ⟨rfl, n, rfl⟩
    exact ⟨rfl, bel_drewN0 _ _⟩)
  clear hp hq hb rp rq
  have F := alloc2 w (scriptA p pa pc h ps) (scriptA q qa qc h ps) 34 34
  have KP : Hid _ := script_hart p pa pc h ps
  have KQ : Hid _ := script_hart q qa qc h ps
  have A1 : Hid _ := script_pick p pa pc h ps
  have B1 : Hid _ := script_pick q qa qc h ps
  generalize scriptA p pa pc h ps = A at *
  generalize scriptA q qa qc h ps = B at *
  go_enter Try.func8, Try.ntmps8
  go_upto_region 1 with fail
  generalize (w.alloc (Obj.cells A 34)).alloc (Obj.cells B 34) = u0 at F ⊢
  obtain ⟨f1, f2, hz, n0⟩ := F
  have H1 : Hid _ := f1
  have H2 : Hid _ := f2
  clear f1 f2
  have L1 : Hid _ := box_load (P := Try.prog) (T := 31) H1.out Try.underlying31 rfl (o := 0) (hartA p h).toList hartI KP.out rfl
  have L2 : Hid _ := box_load (P := Try.prog) (T := 31) H2.out Try.underlying31 rfl (o := 0) (hartA q h).toList hartI KQ.out rfl
  rw [show (hartA p h).toList.toArray = hartA p h from rfl] at L1
  rw [show (hartA q h).toList.toArray = hartA q h from rfl] at L2
  generalize hartA p h = KA at *
  generalize hartA q h = KB at *
  go_wp2_with (first | ((with_reducible refine wpl_load ?_ L1.out ?_); (exact rfl)) | ((with_reducible refine wpl_load ?_ L2.out ?_); (exact rfl)))
  refine (E1.out u0 n0).mono ?_
  rintro e u1 ⟨rfl, m1⟩
  have n1 := Below.step n0 m1 (Nat.le_refl _)
  replace H1 := hid_keep H1 m1
  replace H2 := hid_keep H2 m1
  clear L1 L2
  have c1 := box_cell H1.out 21 A1.out
  have d1 := box_cell H2.out 21 B1.out
  go_wp2_with fail
  refine (E2.out u1 n1).mono ?_
  rintro e u2 ⟨rfl, m2⟩
  have n2 := Below.step n1 m2 (Nat.le_refl _)
  clear c1 d1
  go_wp2_with fail
  go_ret
  exact ⟨rfl, n2⟩

end Go.Proofs.Ythekickjjaleaac

/- The laws' helpers markScript, heldScript. -/
namespace Go.Proofs.Ythekickjjaleaac
open Go.RowKit
set_option linter.unusedVariables false
attribute [local go_sem ↓] Go.wp_at_zero Go.wp_at_succ

def hTot (h : HartM) (k0 : Int) : Int := k0 + h.mem.length + h.regs.length + h.k.i.es.length * 6 + h.k.d.es.length * 6 + h.k.p.es.length * 6

def HMark (base : Nat) (w : World) (p : PtrM) (h : HartM) (k0 : Int) : Prop := HartO base w p h (mkF (mkByteS k0) h.mem.length) (mkF (mkUint64S (k0 + h.mem.length)) h.regs.length) (mkEs (k0 + h.mem.length + h.regs.length) (h.k.i.es.length * 6)) (mkEs (k0 + h.mem.length + h.regs.length + h.k.i.es.length * 6) (h.k.d.es.length * 6)) (mkEs (k0 + h.mem.length + h.regs.length + h.k.i.es.length * 6 + h.k.d.es.length * 6) (h.k.p.es.length * 6))

theorem HartO.box_ne {base pb : Nat} {w : World} {p : PtrM} {h : HartM} {cm cr c1 c2 c3 : List Value} {T : TypeId} {cur : Array Value} {q : Nat × Nat} (k : HartO base w p h cm cr c1 c2 c3) (hp : w.heap[pb]? = some (.cells cur T q)) (t1 : T ≠ 5) (t2 : T ≠ 24) (t3 : T ≠ 91) : ¬ hrows p h pb := by
  rintro (h1 | h1 | h1 | h1 | h1)
  · exact box_own_ne k.mem hp t1 h1
  · exact box_own_ne k.regs hp t2 h1
  · exact box_own_ne k.r1 hp t3 h1
  · exact box_own_ne k.r2 hp t3 h1
  · exact box_own_ne k.r3 hp t3 h1

theorem HartO.row_ne {base base' n : Nat} {w : World} {p : PtrM} {h : HartM} {cm cr c1 c2 c3 cs : List Value} {s : Value} (k : HartO base w p h cm cr c1 c2 c3) (hs : w.ownsRow base' 2 1 s n cs) : ∀ g, s.ownBlock = some g → ¬ hrows p h g := by
  rintro g hg (h1 | h1 | h1 | h1 | h1)
  · exact own_apart k.mem hs (by decide) g h1 hg
  · exact own_apart k.regs hs (by decide) g h1 hg
  · exact own_apart k.r1 hs (by decide) g h1 hg
  · exact own_apart k.r2 hs (by decide) g h1 hg
  · exact own_apart k.r3 hs (by decide) g h1 hg

theorem HartO.kept {base base' n : Nat} {w w' : World} {p : PtrM} {h : HartM} {cm cr c1 c2 c3 cs : List Value} {s : Value} (k : HartO base w p h cm cr c1 c2 c3) (hs : w.ownsRow base' 2 1 s n cs) (hg : w.grownBy w' s.ownBlock) : HartO base w' p h cm cr c1 c2 c3 :=
  ⟨own_kept k.mem hg (own_apart k.mem hs (by decide)), own_kept k.regs hg (own_apart k.regs hs (by decide)), own_kept k.r1 hg (own_apart k.r1 hs (by decide)), own_kept k.r2 hg (own_apart k.r2 hs (by decide)), own_kept k.r3 hg (own_apart k.r3 hs (by decide)), k.d12, k.d13, k.d23⟩

/-- The blocks of a script's rows. -/
def srows (p : PtrM) (h : HartM) (pa : Option Addr) (pc : Nat) (ps : List Int) (g : Nat) : Prop := hrows p h g ∨ (Value.slice pa ps.length pc).ownBlock = some g

set_option maxRecDepth 20000 in
set_option maxHeartbeats 1600000 in
theorem markScript_own (base : Nat) (p : PtrM) (h : HartM) (pa : Option Addr) (pc : Nat) (ps : List Int) (cm cr c1 c2 c3 cp : List Value) (k0 : Int) (w : World) (ho : HartO base w p h cm cr c1 c2 c3) (hp : w.ownsRow base 2 1 (.slice pa ps.length pc) ps.length cp) (hb : HartB h) (hl : ps.length ≤ 1048576) (hk0 : 0 ≤ k0) (hk1 : k0 + h.mem.length + h.regs.length ≤ 1048577) :
    Calls Try.prog 11 #[.agg (scriptA p pa pc h ps), .int .i64 k0] w fun e w' => e = .returned (.int .i64 (hTot h k0 + ps.length)) ∧ (HMark base w' p h k0 ∧ w'.ownsRow base 2 1 (.slice pa ps.length pc) ps.length (mkF (mkInt64S (hTot h k0)) ps.length)) ∧ Mid (srows p h pa pc ps) w w' := by
  have F := alloc1 w (scriptA p pa pc h ps) 34
  have KP : Hid _ := script_hart p pa pc h ps
  have A1 : Hid _ := script_pick p pa pc h ps
  have bt : 0 ≤ hTot h k0 ∧ hTot h k0 ≤ 1073741824 := by
    have b1 := hb.k1
    have b2 := hb.k2
    have b3 := hb.k3
    unfold hTot
    omega
  have CM : Hid (∀ u, HartO base u p h cm cr c1 c2 c3 → Calls Try.prog 31 #[.agg (hartA p h), .int .i64 k0] u fun e w' => e = .returned (.int .i64 (hTot h k0)) ∧ HMark base w' p h k0 ∧ Mid (hrows p h) u w') := fun u hu => markHart_own base p h cm cr c1 c2 c3 k0 u hu hb hk0 hk1
  have CR : Hid (∀ u, u.ownsRow base 2 1 (.slice pa ps.length pc) ps.length cp → Calls Try.prog 32 #[.slice pa ps.length pc, .int .i64 (hTot h k0)] u fun e w' => e = .returned (.int .i64 (hTot h k0 + ps.length)) ∧ w'.ownsRow base 2 1 (.slice pa ps.length pc) ps.length (mkF (mkInt64S (hTot h k0)) ps.length) ∧ u.grownBy w' (Value.slice pa ps.length pc).ownBlock) := fun u hu => markInt64S_own base _ _ cp (hTot h k0) u hu hl bt.1 bt.2
  have HO : Hid _ := ho
  have HP : Hid _ := hp
  clear ho hp hb hk1
  generalize hTot h k0 = TT at *
  generalize scriptA p pa pc h ps = A at *
  go_enter Try.func11, Try.ntmps11
  go_upto_region 1 with fail
  generalize (w.alloc (Obj.cells A 34)) = u0 at F ⊢
  obtain ⟨f1, hz, n0⟩ := F
  have H1 : Hid _ := f1
  clear f1
  replace HO : Hid _ := HO.out.keep n0
  replace HP : Hid _ := own_below HP.out n0
  have L1 : Hid _ := box_load (P := Try.prog) (T := 31) H1.out Try.underlying31 rfl (o := 0) (hartA p h).toList hartI KP.out rfl
  rw [show (hartA p h).toList.toArray = hartA p h from rfl] at L1
  generalize hartA p h = KA at *
  go_wp2_with (first | ((with_reducible refine wpl_load ?_ L1.out ?_); (exact rfl)))
  refine (CM.out u0 HO.out).mono ?_
  rintro e u1 ⟨rfl, hm, md⟩
  have HM : Hid _ := hm
  have MD : Hid _ := md
  have Y1 : Hid _ := md.heap H1.out (HO.out.box_ne H1.out (by decide) (by decide) (by decide))
  replace HP : Hid _ := md.own HP.out (HO.out.row_ne HP.out)
  clear hm md L1 H1
  have c1 := box_cell Y1.out 21 A1.out
  go_wp2_with fail
  refine (CR.out u1 HP.out).mono ?_
  rintro e u2 ⟨rfl, hp', gp⟩
  have HF : Hid ((HMark base u2 p h k0 ∧ u2.ownsRow base 2 1 (.slice pa ps.length pc) ps.length (mkF (mkInt64S TT) ps.length)) ∧ Mid (srows p h pa pc ps) w u2) :=
    ⟨⟨HartO.kept HM.out HP.out gp, hp'⟩, (Mid.of_below n0).trans ((⟨MD.out.os, MD.out.tape, MD.out.output, MD.out.size, fun i hi hn => MD.out.block i hi (fun hh => hn (.inl hh))⟩ : Mid (srows p h pa pc ps) u0 u1).trans (Mid.of_gb gp (fun g hg => .inr hg)))⟩
  clear hp' gp c1 Y1 HM MD HO HP
  go_wp2_with fail
  go_ret
  exact ⟨rfl, HF.out⟩

set_option maxRecDepth 20000 in
set_option maxHeartbeats 1600000 in
theorem heldScript_own (base : Nat) (p : PtrM) (h : HartM) (pa : Option Addr) (pc : Nat) (ps : List Int) (k0 : Int) (w : World) (ho : HMark base w p h k0) (hp : w.ownsRow base 2 1 (.slice pa ps.length pc) ps.length (mkF (mkInt64S (hTot h k0)) ps.length)) (hb : HartB h) (hl : ps.length ≤ 1048576) (hk0 : 0 ≤ k0) (hk1 : k0 + h.mem.length + h.regs.length ≤ 1048577) :
    Calls Try.prog 12 #[.agg (scriptA p pa pc h ps), .int .i64 k0] w fun e w' => e = .returned (.int .i64 (hTot h k0 + ps.length)) ∧ Below w.heap.size w w' := by
  have F := alloc1 w (scriptA p pa pc h ps) 34
  have KP : Hid _ := script_hart p pa pc h ps
  have A1 : Hid _ := script_pick p pa pc h ps
  have bt : 0 ≤ hTot h k0 ∧ hTot h k0 ≤ 1073741824 := by
    have b1 := hb.k1
    have b2 := hb.k2
    have b3 := hb.k3
    unfold hTot
    omega
  have CM : Hid (∀ u, Below w.heap.size w u → Calls Try.prog 33 #[.agg (hartA p h), .int .i64 k0] u fun e w' => e = .returned (.int .i64 (hTot h k0)) ∧ Below u.heap.size u w') := fun u hu => heldHart_own base p h k0 u (HartO.keep ho hu) hb hk0 hk1
  have CR : Hid (∀ u, Below w.heap.size w u → Calls Try.prog 34 #[.slice pa ps.length pc, .int .i64 (hTot h k0)] u fun e w' => e = .returned (.int .i64 (hTot h k0 + ps.length)) ∧ w' = u) := fun u hu => heldInt64S_own base _ _ (hTot h k0) u (own_below hp hu) hl bt.1 bt.2
  clear ho hp hb hk1
  generalize hTot h k0 = TT at *
  generalize scriptA p pa pc h ps = A at *
  have q1 : decide (TT < 0) = false := by simp; omega
  have q2 : decide (TT + (ps.length : Int) < 0) = false := by simp; omega
  go_enter Try.func12, Try.ntmps12
  go_upto_region 1 with fail
  generalize (w.alloc (Obj.cells A 34)) = u0 at F ⊢
  obtain ⟨f1, hz, n0⟩ := F
  have H1 : Hid _ := f1
  clear f1
  have L1 : Hid _ := box_load (P := Try.prog) (T := 31) H1.out Try.underlying31 rfl (o := 0) (hartA p h).toList hartI KP.out rfl
  rw [show (hartA p h).toList.toArray = hartA p h from rfl] at L1
  generalize hartA p h = KA at *
  go_wp2_with (first | ((with_reducible refine wpl_load ?_ L1.out ?_); (exact rfl)))
  refine (CM.out u0 n0).mono ?_
  rintro e u1 ⟨rfl, m1⟩
  have n1 := Below.step n0 m1 (Nat.le_refl _)
  have Y1 : Hid _ := hid_keep H1 m1
  clear L1 H1 m1
  have c1 := box_cell Y1.out 21 A1.out
  go_wp2_with fail
  refine (CR.out u1 n1).mono ?_
  rintro e _ ⟨rfl, rfl⟩
  clear c1 Y1
  go_wp2_with fail
  go_ret
  exact ⟨rfl, n1⟩

end Go.Proofs.Ythekickjjaleaac

/- The program's scripts: run. -/
namespace Go.Proofs.Ythekickjjaleaac
open Go.RowKit
set_option linter.unusedVariables false
attribute [local go_sem ↓] Go.wp_at_zero Go.wp_at_succ

theorem write1_own (base g len cap k : Nat) (zs : List Int) (val : Int) (w : World) (h : OwnC 5 1 w base g len cap (bytC zs)) (hz : zs.length = len) (hk : k < len) (hl : len ≤ 1048576) (hv0 : 0 ≤ val) (hv1 : val ≤ 255) :
    Calls Try.prog 51 #[.slice (some ⟨g, 0, none⟩) len cap, .int .u64 k, .int .u64 val] w fun e w' => e = .returned (.tuple #[]) ∧ OwnC 5 1 w' base g len cap (bytC (zs.set k val)) ∧ w.grownBy w' (some g) := by
  have g2 := own_cell h k (.int .u8 (zs[k]?.getD 0)) (by
    have : k < zs.length := by omega
    simp [bytC, this])
  have g3 := own_free h k
  have O2 : Hid (OwnC 5 1 (w.setCell ⟨g, k, none⟩ (.int .u8 val)) base g len cap (bytC (zs.set k val))) := by
    have := own_store h k (.int .u8 val)
    rw [show (bytC zs).set k (.int .u8 val) = bytC (zs.set k val) by simp [bytC, List.map_set]] at this
    exact this
  have G2 : Hid _ := gb_set (gb_refl w (some g)) k (.int .u8 val)
  have hg := (OwnC.facts h).2.2.1
  clear h
  go_enter Try.func51, Try.ntmps51
  go_wp2_with fail
  go_end0
  have e : IntKind.u8.wrap val = val := by show val % 256 = val; omega
  exact ⟨rfl, O2.out, G2.out⟩

theorem numM_two (zs : List Int) (p : Nat) : numM zs p 2 = atM zs p + 256 * atM zs (p + 1) := by
  rw [numM_succ, numM_succ]
  simp [numM, num]

set_option maxHeartbeats 1600000 in
theorem run_any (b len cap p base g n mc : Nat) (a : Option Addr) (zs mem : List Int) (w : World) (hR : RdAt w b a len cap zs p) (hM : OwnC 5 1 w base g n mc (bytC mem)) (hml : mem.length = n) (hn : n ≤ 4096) (hgb : g ≠ b) (hga : 0 < len → ∀ x, a = some x → x.block ≠ g) :
    Calls Try.prog 28 #[.pointer (some ⟨b, 0, none⟩), .slice (some ⟨g, 0, none⟩) n mc] w fun e w' => e = .returned (.tuple #[]) ∧ RdAt w' b a len cap zs (p + 3 + (atM zs (p + 2)).toNat) ∧ OwnC 5 1 w' base g n mc (bytC (layM zs (atM zs (p + 2)).toNat (p + 3) (addrM zs p) mem)) ∧ Keeps w w' b g g := by
  have HR : Hid _ := hR
  have HM : Hid _ := hM
  have HGa : Hid _ := hga
  have HBd : Hid (∀ i : Nat, 0 ≤ atM zs i ∧ atM zs i ≤ 255) := hR.byt.2.1
  clear hR hM hga
  obtain ⟨A, hA⟩ : ∃ A : Nat, addrM zs p = A := ⟨_, rfl⟩
  have hb0 := HBd.out p
  have hb1 := HBd.out (p + 1)
  have hb2 := HBd.out (p + 2)
  have HA : Hid (numM zs p 2 = (A : Int)) := by show _ = _; rw [numM_two, ← hA]; unfold addrM; omega
  have hA2 : A ≤ 65535 := by rw [← hA]; unfold addrM; omega
  obtain ⟨m, hm⟩ : ∃ m : Nat, atM zs (p + 2) = m := ⟨(atM zs (p + 2)).toNat, by omega⟩
  have Hm : Hid _ := hm
  rw [hm] at hb2
  have hm2 : m ≤ 255 := by omega
  rw [hA, hm, Int.toNat_natCast]
  clear hA hm hb0 hb1 hb2
  go_enter Try.func28, Try.ntmps28
  go_wp2_with fail
  refine (number_any b len cap p 2 a zs w HR.out (by omega)).mono ?_
  rintro e v1 ⟨rfl, hR1, hG1⟩
  rw [HA.out]
  have HR1 : Hid _ := hR1
  have HG1 : Hid _ := hG1
  clear hR1 hG1
  go_wp2_with fail
  refine (next_any b len cap (p + 2) a zs v1 HR1.out).mono ?_
  rintro e v2 ⟨rfl, hR2, hG2⟩
  rw [Hm.out]
  have hG := gb_trans HG1.out hG2
  have HR2 : Hid _ := hR2
  have HM2 : Hid _ := OwnC.gb HM.out hG hgb
  have K2 : Hid (Keeps w v2 b g g) := Keeps.of_gb b g g hG (.inl rfl)
  clear hR2 hG2 hG HG1 HR1
  go_wp2_with fail
  go_loopw [4, 10] (fun av cv wr => ∃ (k : Nat) (mk : List Int), k ≤ m ∧ cv = .int .u8 k ∧ av = .int .u64 ((A + k : Nat) : Int) ∧ RdAt wr b a len cap zs (p + 3 + k) ∧ layM zs m (p + 3) A mem = layM zs (m - k) (p + 3 + k) (A + k) mk ∧ mk.length = n ∧ OwnC 5 1 wr base g n mc (bytC mk) ∧ Keeps w wr b g g) (fun _ cv _ => m - (intOf cv).toNat)
  case atStart => exact ⟨0, mem, Nat.zero_le _, rfl, rfl, HR2.out, rfl, hml, HM2.out, K2.out⟩
  case round =>
    clear HR2 HM2 K2
    obtain ⟨k, mk, hk, rfl, rfl, hRk, hLk, hmk, hOk, hKk⟩ := hrel
    have HRk : Hid _ := hRk
    have HLk : Hid _ := hLk
    have HOk : Hid _ := hOk
    have HKk : Hid _ := hKk
    clear hRk hLk hOk hKk
    by_cases hkm : k < m
    · obtain ⟨z, hz⟩ : ∃ z, atM zs (p + 3 + k) = z := ⟨_, rfl⟩
      have HZ : Hid _ := hz
      have bz := HBd.out (p + 3 + k)
      rw [hz] at bz
      obtain ⟨hz1, hz2⟩ := bz
      clear hz
      go_wp2_with fail
      refine (next_any b len cap (p + 3 + k) a zs wr HRk.out).mono ?_
      rintro e v3 ⟨rfl, hR3, hG3⟩
      rw [HZ.out]
      have HR3 : Hid _ := hR3
      have HO3 : Hid _ := OwnC.gb HOk.out hG3 hgb
      have K3 : Hid (Keeps w v3 b g g) := Keeps.trans HKk.out (Keeps.of_gb b g g hG3 (.inl rfl))
      clear hR3 hG3
      by_cases hin : A + k < n
      · have HI : Hid (insB n ((A + k : Nat) : Int) 1 = true) := by show _ = _; simp only [insB, decide_eq_true_eq]; omega
        go_wp2_with fail
        refine (has_any (some ⟨g, 0, none⟩) n mc ((A + k : Nat) : Int) 1 v3 (by omega) (by omega) (by omega) (by omega) (by omega)).mono ?_
        rintro e v' ⟨rfl, hv'⟩
        rw [hv', HI.out]
        clear hv' v'
        go_wp2_with fail
        refine (write1_own base g n mc (A + k) mk z v3 HO3.out hmk hin (by omega) hz1 hz2).mono ?_
        rintro e v4 ⟨rfl, hO4, hG4⟩
        have HO4 : Hid _ := hO4
        have HR4 : Hid _ := HR3.out.gb hG4 (Ne.symm hgb) HGa.out
        have K4 : Hid (Keeps w v4 b g g) := Keeps.trans K3.out (Keeps.of_gb b g g hG4 (.inr (.inl rfl)))
        clear hO4 hG4
        go_wp2_with fail
        refine ⟨⟨k + 1, mk.set (A + k) z, by omega, by go_num, by go_num, HR4.out, ?_, by rw [List.length_set]; exact hmk, HO4.out, K4.out⟩, ?_⟩
        · rw [HLk.out, show m - k = (m - (k + 1)) + 1 by omega, layM, if_pos (by omega), HZ.out]
          rfl
        · simp [intOf]
          omega
      · have HI : Hid (insB n ((A + k : Nat) : Int) 1 = false) := by show _ = _; simp only [insB, decide_eq_false_iff_not]; omega
        go_wp2_with fail
        refine (has_any (some ⟨g, 0, none⟩) n mc ((A + k : Nat) : Int) 1 v3 (by omega) (by omega) (by omega) (by omega) (by omega)).mono ?_
        rintro e v' ⟨rfl, hv'⟩
        rw [hv', HI.out]
        clear hv' v'
        go_wp2_with fail
        refine ⟨⟨k + 1, mk, by omega, by go_num, by go_num, HR3.out, ?_, hmk, HO3.out, K3.out⟩, ?_⟩
        · rw [HLk.out, show m - k = (m - (k + 1)) + 1 by omega, layM, if_neg (by omega)]
          rfl
        · simp [intOf]
          omega
    · have hkm' : k = m := by omega
      subst hkm'
      go_wp2_with fail
      go_end0
      have e := HLk.out
      rw [Nat.sub_self, layM] at e
      rw [e]
      exact ⟨rfl, HRk.out, HOk.out, HKk.out⟩

end Go.Proofs.Ythekickjjaleaac
