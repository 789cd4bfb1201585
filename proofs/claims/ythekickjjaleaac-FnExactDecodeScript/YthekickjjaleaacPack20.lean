import Derived.Test.YthekickjjaleaacPack08
import Derived.Test.YthekickjjaleaacPack14
import Derived.Test.YthekickjjaleaacPack19
import Derived.Test.YthekickjjaleaacPack17
import Derived.Test.YthekickjjaleaacPack15
/- markByteS and heldByteS. -/
namespace Go.Proofs.Ythekickjjaleaac
open Go.RowKit
set_option linter.unusedVariables false

set_option maxHeartbeats 400000 in
theorem markByteS_any (g len cap : Nat) (zs : List Int) (k0 : Int) (w : World) (h : Blk 5 w g zs) (hz : zs.length = len) (hl : len ≤ 1048576) (hk0 : 0 ≤ k0) (hk1 : k0 ≤ 1073741824) :
    Calls Try.prog 10 #[.slice (some ⟨g, 0, none⟩) len cap, .int .i64 k0] w fun e w' =>
      e = .returned (.int .i64 (k0 + len)) ∧ Blk 5 w' g (mks k0 len) ∧ w.grownBy w' (some g) := by
  go_enter Try.func10, Try.ntmps10
  go_wp2
  go_loopw [1, 5] (fun kk i wr => ∃ (j : Nat) (ys : List Int), j ≤ len ∧ kk = .int .i64 (k0 + j) ∧ i = .int .i64 j ∧ ys.length = len ∧ (∀ t, t < j → ys[t]? = (mks k0 len)[t]?) ∧ Blk 5 wr g ys ∧ w.grownBy wr (some g)) (fun _ i _ => len - (intOf i).toNat)
  case atStart => exact ⟨0, zs, Nat.zero_le _, by simp, rfl, hz, fun t ht => absurd ht (by omega), h, gb_refl _ _⟩
  case round =>
    obtain ⟨j, ys, hj, rfl, rfl, hy, hyz, hb, hn⟩ := hrel
    by_cases hlt : j < len
    · have g2 := hb.cell j (by omega)
      have g3 := hb.free j
      have HZ : Hid (∀ t, t < j → ys[t]? = (mks k0 len)[t]?) := hyz
      clear hyz h
      go_wp2
      go_roundw
      case rel => exact ⟨j + 1, _, by omega, by go_num, by go_num, by simp [hy], mark_step k0 len j ys hy hlt HZ.out, hb.store j _, gb_set hn _ _⟩
      case measure => simp [intOf]; omega
    · have hyy : ys = mks k0 len := by
        apply List.ext_getElem?
        intro t
        by_cases ht : t < len
        · exact hyz t (by omega)
        · rw [List.getElem?_eq_none (by omega), List.getElem?_eq_none (by rw [mks_len]; omega)]
      subst hyy
      have hjl : j = len := by omega
      subst hjl
      clear hyz h
      go_wp2
      go_ret
      exact ⟨rfl, hb, hn⟩

end Go.Proofs.Ythekickjjaleaac

/- What the law of scripts keeps of an answer: its box, its rows. -/
namespace Go.Proofs.Ythekickjjaleaac
open Go.RowKit
set_option linter.unusedVariables false

theorem HartIn.row {w : World} {p : PtrM} {h : HartM} (k : HartIn w p h) : HartR w p h ∧ h.k.i.es.length ≤ 1048576 ∧ h.k.d.es.length ≤ 1048576 ∧ h.k.p.es.length ≤ 1048576 := by
  obtain ⟨a1, c1, a2, c2, a3, c3, he, t1, t2, t3⟩ := k.ks
  simp only [kA, Value.agg.injEq, Array.mk.injEq, List.cons.injEq, Value.slice.injEq, true_and, and_true] at he
  obtain ⟨⟨rfl, rfl⟩, ⟨rfl, rfl⟩, rfl, rfl⟩ := he
  exact ⟨⟨k.mem, k.regs, t1.row.1, t2.row.1, t3.row.1⟩, t1.row.2, t2.row.2, t3.row.2⟩

theorem picks_len (zs : List Int) : (picksM zs).length ≤ 20000 := by
  simp only [picksM, List.length_map, List.length_range, stepsM]
  omega

theorem dec_len {zs : List Int} (hz : ∀ i : Nat, 0 ≤ zs[i]?.getD 0 ∧ zs[i]?.getD 0 ≤ 255) : (decodeHM zs).mem.length ≤ 4096 ∧ (decodeHM zs).regs.length = 8 :=
  have k := (dec_hok hz).v
  ⟨by have := k.size; simp [sizeM] at this; exact this.2.2, k.regs⟩

/-- A script laid into a new block. -/
theorem put_new (v : World) (V : Array Value) (hs : V.size = 22) (h1 : V.all (·.oneCell') = true) :
    ∃ v', (Instr.storeAt 34 (.pointer (some ⟨v.heap.size, 0, none⟩)) (.agg V)).run Try.prog (v.alloc (Obj.cells zscriptA 34)) = .ok () v' ∧ v'.heap[v.heap.size]? = some (.cells V 34 (0, 0)) ∧ v.heap.size < v'.heap.size ∧ Below v.heap.size v v' := by
  have a := alloc1 v zscriptA 34
  refine ⟨_, box_put (P := Try.prog) (T := 34) a.1 (by rw [hs]; exact scriptI) (by rw [hs]; rfl) h1, box_putH a.1 (by rw [hs]; rfl), ?_, ?_⟩
  · rw [size_sets, a.2.1]
    exact Nat.lt_succ_self _
  · exact bel_sets (Nat.le_refl _) _ _ _ a.2.2

/-- A load under a guard that says yes, its run known. -/
theorem wpl_loadg {P : Program} {ops : Array Oper} {Q : Exit → Act → World → Prop} {rest : List Oper} {a : Act} {d : Tmp} {T ty : TypeId} {x : Operand} {pos : String} {af : Array Edge} {g : Option (Nat × Bool)} {w : World} {b o : Nat} {V : Value} (hw : Region.wanted { dst := some d, op := .load T x, type := ty, pos := pos, after := af, guard := g } (yielded ops a.tmps) = true) (hx : a.eval x = .pointer (some ⟨b, o, none⟩)) (hl : (Instr.loadAt T (.pointer (some ⟨b, o, none⟩))).run P w = .ok V w)
    (h : wpList P ops Q rest (a.put (some d) V) w) : wpList P ops Q ({ dst := some d, op := .load T x, type := ty, pos := pos, after := af, guard := g } :: rest) a w :=
  wpList_step fun K hK => by
    rw [if_pos hw]
    unfold Oper.wp execOp
    simp only [hx, Sem.run_bind, hl, Result.andThen_ok, Sem.run_pure]
    exact hK _ _ h

theorem box_script {v : World} {g : Nat} {V : Array Value} (hs : V.size = 22) (h : v.heap[g]? = some (.cells V 34 (0, 0))) : (Instr.loadAt 34 (.pointer (some ⟨g, 0, none⟩))).run Try.prog v = .ok (.agg V) v :=
  box_whole h Try.underlying34 rfl (by rw [hs]; exact scriptI)

/-- A script whose rows are of the call's own. -/
structure ScrO (base : Nat) (v : World) (p : PtrM) (h : HartM) (pa : Option Addr) (pc : Nat) (ps : List Int) : Prop where
  hart : HartO base v p h (bytC h.mem) (numsC h.regs) (entsC h.k.i.es) (entsC h.k.d.es) (entsC h.k.p.es)
  pick : v.ownsRow base 2 1 (.slice pa ps.length pc) ps.length (picksC ps)

theorem ScrO.keep {base : Nat} {v v' : World} {p : PtrM} {h : HartM} {pa : Option Addr} {pc : Nat} {ps : List Int} (k : ScrO base v p h pa pc ps) (hb : Below v.heap.size v v') : ScrO base v' p h pa pc ps :=
  ⟨k.hart.keep hb, own_below k.pick hb⟩

theorem ScrO.gb {base r : Nat} {v v' : World} {p : PtrM} {h : HartM} {pa : Option Addr} {pc : Nat} {ps : List Int} (k : ScrO base v p h pa pc ps) (hg : v.grownBy v' (some r)) (hr : r < base) : ScrO base v' p h pa pc ps :=
  ⟨k.hart.gb hg hr, own_gb k.pick hg hr⟩

theorem ScrO.low {base : Nat} {v : World} {p : PtrM} {h : HartM} {pa : Option Addr} {pc : Nat} {ps : List Int} (k : ScrO base v p h pa pc ps) : ∀ g, srows p h pa pc ps g → base ≤ g := by
  rintro g (h1 | h1)
  · exact (k.hart.low g h1).1
  · exact (k.pick.lt g h1).1

theorem ScrO.box {base pb : Nat} {v : World} {p : PtrM} {h : HartM} {pa : Option Addr} {pc : Nat} {ps : List Int} {cur : Array Value} {q : Nat × Nat} (k : ScrO base v p h pa pc ps) (hp : v.heap[pb]? = some (.cells cur 34 q)) : ¬ srows p h pa pc ps pb := by
  rintro (h1 | h1)
  · exact k.hart.box_ne hp (by decide) (by decide) (by decide) h1
  · exact box_own_ne k.pick hp (by decide) h1

theorem DecOwn.own {w v : World} {h : HartM} {ps : List Int} {e : Ending} (d : DecOwn w h ps e v) : (∃ p pa pc, e = .returned (.agg (scriptA p pa pc h ps)) ∧ ScrO w.heap.size v p h pa pc ps) ∧ Below w.heap.size w v := by
  obtain ⟨⟨g1, c1, g2, c2, g3, c3, gm, cm, gr, cr, gp, cp, rfl, o1, o2, o3, om, oR, op, n12, n13, n23⟩, n⟩ := d
  refine ⟨⟨_, _, _, rfl, ⟨om, oR, o1, o2, o3, ?_, ?_, ?_⟩, op⟩, n⟩
  · intro g h1 h2
    exact n12 (Option.some.inj (h1.trans h2.symm))
  · intro g h1 h2
    exact n13 (Option.some.inj (h1.trans h2.symm))
  · intro g h1 h2
    exact n23 (Option.some.inj (h1.trans h2.symm))

end Go.Proofs.Ythekickjjaleaac
