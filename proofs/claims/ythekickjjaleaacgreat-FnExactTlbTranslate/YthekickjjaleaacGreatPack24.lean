import Derived.Test.YthekickjjaleaacGreatPack23
import Derived.Test.YthekickjjaleaacGreatPack17
import Derived.Deep.DeepCutAuto
/- The program's slotOf, for one kind of cache. Written by mk4.py. -/
namespace Go.Proofs.YthekickjjaleaacGreat
open Go.RowKit
set_option linter.unusedVariables false

theorem method_goodAtP (x : Int) (w : World) : (method 460 198 (.int .u64 x) "loop.example/s0051/impl.goodAt").run Tryz.prog w = .ok (259, .int .u64 x) w := by kernel_rfl

theorem slot_vP (lv tg asd pt tm : Int) (gl : Bool) (w : World)  :
    Calls Tryz.prog 151 #[.agg #[.bool false, .int .i64 lv, .int .u64 tg, .int .u64 asd, .bool gl, .int .u64 pt]] w fun e w' => e = .returned (.tuple #[slotV ent0, .bool false]) ∧ Below w.heap.size w w' := by
  have n1 := ((Below.refl w.heap.size w).alloc (Nat.le_refl _) (Obj.cells #[.bool false, .int .i64 lv, .int .u64 tg, .int .u64 asd, .bool gl, .int .u64 pt] 101)).alloc (by simp) (Obj.cells #[.int .i64 0, .int .u64 0, .int .u64 0, .bool false, .bool false, .int .u64 0] 257)
  go_enter Tryz.func151, Tryz.ntmps151
  go_wp2_with fail
  go_quiet (fail)
  go_wp2_with fail
  exact bodyPost_ret (v := .tuple #[slotV ent0, .bool false]) (by simp [results, Tryz.results151, go_sem, slotV, ent0]) rfl ⟨rfl, belS6 (below_drewN n1 nq) (by omega) _ _ _ _ _ _⟩

theorem slot_lP (lv tg asd pt tm : Int) (gl : Bool) (w : World) (HKL : Hid (∀ w, Calls Tryz.prog 185 #[.int .i64 lv] w fun e w' => e = .returned (.bool false) ∧ w' = w)) :
    Calls Tryz.prog 151 #[.agg #[.bool true, .int .i64 lv, .int .u64 tg, .int .u64 asd, .bool gl, .int .u64 pt]] w fun e w' => e = .returned (.tuple #[slotV ent0, .bool false]) ∧ Below w.heap.size w w' := by
  have n1 := ((Below.refl w.heap.size w).alloc (Nat.le_refl _) (Obj.cells #[.bool true, .int .i64 lv, .int .u64 tg, .int .u64 asd, .bool gl, .int .u64 pt] 101)).alloc (by simp) (Obj.cells #[.int .i64 0, .int .u64 0, .int .u64 0, .bool false, .bool false, .int .u64 0] 257)
  go_enter Tryz.func151, Tryz.ntmps151
  go_wp2_with fail
  go_quiet ((go_at_call 185; exact Calls.quiet_of_same (HKL.out _)))
  go_wp2_with fail
  exact bodyPost_ret (v := .tuple #[slotV ent0, .bool false]) (by simp [results, Tryz.results151, go_sem, slotV, ent0]) rfl ⟨rfl, belS6 (below_drewN n1 nq) (by omega) _ _ _ _ _ _⟩

theorem slot_tP (lv tg asd pt tm : Int) (gl : Bool) (w : World) (HKL : Hid (∀ w, Calls Tryz.prog 185 #[.int .i64 lv] w fun e w' => e = .returned (.bool true) ∧ w' = w)) (HTM : Hid (∀ w, Calls Tryz.prog 186 #[.int .i64 lv] w fun e w' => e = .returned (.int .u64 tm) ∧ w' = w)) (h : ¬ (tg ≤ tm)) :
    Calls Tryz.prog 151 #[.agg #[.bool true, .int .i64 lv, .int .u64 tg, .int .u64 asd, .bool gl, .int .u64 pt]] w fun e w' => e = .returned (.tuple #[slotV ent0, .bool false]) ∧ Below w.heap.size w w' := by
  have n1 := ((Below.refl w.heap.size w).alloc (Nat.le_refl _) (Obj.cells #[.bool true, .int .i64 lv, .int .u64 tg, .int .u64 asd, .bool gl, .int .u64 pt] 101)).alloc (by simp) (Obj.cells #[.int .i64 0, .int .u64 0, .int .u64 0, .bool false, .bool false, .int .u64 0] 257)
  go_enter Tryz.func151, Tryz.ntmps151
  go_wp2_with fail
  go_quiet (first
      | (go_at_call 185; exact Calls.quiet_of_same (HKL.out _))
      | (go_at_call 186; exact Calls.quiet_of_same (HTM.out _)))
  go_wp2_with fail
  exact bodyPost_ret (v := .tuple #[slotV ent0, .bool false]) (by simp [results, Tryz.results151, go_sem, slotV, ent0]) rfl ⟨rfl, belS6 (below_drewN n1 nq) (by omega) _ _ _ _ _ _⟩

theorem slot_aP (lv tg asd pt tm : Int) (gl : Bool) (w : World) (HKL : Hid (∀ w, Calls Tryz.prog 185 #[.int .i64 lv] w fun e w' => e = .returned (.bool true) ∧ w' = w)) (HTM : Hid (∀ w, Calls Tryz.prog 186 #[.int .i64 lv] w fun e w' => e = .returned (.int .u64 tm) ∧ w' = w)) (h : tg ≤ tm) (h2 : ¬ (asd ≤ 65535)) :
    Calls Tryz.prog 151 #[.agg #[.bool true, .int .i64 lv, .int .u64 tg, .int .u64 asd, .bool gl, .int .u64 pt]] w fun e w' => e = .returned (.tuple #[slotV ent0, .bool false]) ∧ Below w.heap.size w w' := by
  have n1 := ((Below.refl w.heap.size w).alloc (Nat.le_refl _) (Obj.cells #[.bool true, .int .i64 lv, .int .u64 tg, .int .u64 asd, .bool gl, .int .u64 pt] 101)).alloc (by simp) (Obj.cells #[.int .i64 0, .int .u64 0, .int .u64 0, .bool false, .bool false, .int .u64 0] 257)
  go_enter Tryz.func151, Tryz.ntmps151
  go_wp2_with fail
  go_quiet (first
      | (go_at_call 185; exact Calls.quiet_of_same (HKL.out _))
      | (go_at_call 186; exact Calls.quiet_of_same (HTM.out _)))
  go_wp2_with fail
  exact bodyPost_ret (v := .tuple #[slotV ent0, .bool false]) (by simp [results, Tryz.results151, go_sem, slotV, ent0]) rfl ⟨rfl, belS6 (below_drewN n1 nq) (by omega) _ _ _ _ _ _⟩

theorem slot_gP (lv tg asd pt tm : Int) (gl g5 : Bool) (w : World) (HKL : Hid (∀ w, Calls Tryz.prog 185 #[.int .i64 lv] w fun e w' => e = .returned (.bool true) ∧ w' = w)) (HTM : Hid (∀ w, Calls Tryz.prog 186 #[.int .i64 lv] w fun e w' => e = .returned (.int .u64 tm) ∧ w' = w)) (h : tg ≤ tm) (h2 : asd ≤ 65535) (HB : Hid (∀ w, Calls Tryz.prog 187 #[.int .u64 pt, .int .u64 32] w fun e w' => e = .returned (.bool g5) ∧ w' = w)) (hne : (gl == g5) = false) :
    Calls Tryz.prog 151 #[.agg #[.bool true, .int .i64 lv, .int .u64 tg, .int .u64 asd, .bool gl, .int .u64 pt]] w fun e w' => e = .returned (.tuple #[slotV ent0, .bool false]) ∧ Below w.heap.size w w' := by
  have hne2 : (gl != g5) = true := by simp [bne, hne]
  have H1 : Hid (∀ k, (((w.alloc (Obj.cells #[.bool true, .int .i64 lv, .int .u64 tg, .int .u64 asd, .bool gl, .int .u64 pt] 101)).alloc (Obj.cells #[.int .i64 0, .int .u64 0, .int .u64 0, .bool false, .bool false, .int .u64 0] 257)).drewN k).heap[w.heap.size]? = some (.cells #[.bool true, .int .i64 lv, .int .u64 tg, .int .u64 asd, .bool gl, .int .u64 pt] 101 (0, 0))) := by
    intro k
    show ((w.alloc (Obj.cells #[.bool true, .int .i64 lv, .int .u64 tg, .int .u64 asd, .bool gl, .int .u64 pt] 101)).alloc (Obj.cells #[.int .i64 0, .int .u64 0, .int .u64 0, .bool false, .bool false, .int .u64 0] 257)).heap[w.heap.size]? = _
    rw [heap_alloc_old _ _ (by simp)]
    exact heap_alloc_new w _
  have H2 : Hid (∀ k, (((w.alloc (Obj.cells #[.bool true, .int .i64 lv, .int .u64 tg, .int .u64 asd, .bool gl, .int .u64 pt] 101)).alloc (Obj.cells #[.int .i64 0, .int .u64 0, .int .u64 0, .bool false, .bool false, .int .u64 0] 257)).drewN k).heap[w.heap.size + 1]? = some (.cells #[.int .i64 0, .int .u64 0, .int .u64 0, .bool false, .bool false, .int .u64 0] 257 (0, 0))) := by
    intro k
    have := heap_alloc_new (w.alloc (Obj.cells #[.bool true, .int .i64 lv, .int .u64 tg, .int .u64 asd, .bool gl, .int .u64 pt] 101)) (Obj.cells #[.int .i64 0, .int .u64 0, .int .u64 0, .bool false, .bool false, .int .u64 0] 257)
    simp only [World.size_alloc] at this
    exact this
  have n1 := ((Below.refl w.heap.size w).alloc (Nat.le_refl _) (Obj.cells #[.bool true, .int .i64 lv, .int .u64 tg, .int .u64 asd, .bool gl, .int .u64 pt] 101)).alloc (by simp) (Obj.cells #[.int .i64 0, .int .u64 0, .int .u64 0, .bool false, .bool false, .int .u64 0] 257)
  have HW : Hid (∀ k, Below w.heap.size w (((w.alloc (Obj.cells #[.bool true, .int .i64 lv, .int .u64 tg, .int .u64 asd, .bool gl, .int .u64 pt] 101)).alloc (Obj.cells #[.int .i64 0, .int .u64 0, .int .u64 0, .bool false, .bool false, .int .u64 0] 257)).drewN k)) := fun k => below_drewN n1 k
  have HS : Hid (∀ k, (((w.alloc (Obj.cells #[.bool true, .int .i64 lv, .int .u64 tg, .int .u64 asd, .bool gl, .int .u64 pt] 101)).alloc (Obj.cells #[.int .i64 0, .int .u64 0, .int .u64 0, .bool false, .bool false, .int .u64 0] 257)).drewN k).heap.size = w.heap.size + 2) := fun k => by show ((w.alloc (Obj.cells #[.bool true, .int .i64 lv, .int .u64 tg, .int .u64 asd, .bool gl, .int .u64 pt] 101)).alloc (Obj.cells #[.int .i64 0, .int .u64 0, .int .u64 0, .bool false, .bool false, .int .u64 0] 257)).heap.size = _; simp
  have hm := method_goodAtP pt
  clear n1
  go_enter Tryz.func151, Tryz.ntmps151
  go_wp2_with fail
  go_quiet (first
      | (go_at_call 185; exact Calls.quiet_of_same (HKL.out _))
      | (go_at_call 186; exact Calls.quiet_of_same (HTM.out _)))
  have K1 := H1.out nq
  have K2 := H2.out nq
  have B1 := HW.out nq
  have S1 := HS.out nq
  generalize ((w.alloc (Obj.cells #[.bool true, .int .i64 lv, .int .u64 tg, .int .u64 asd, .bool gl, .int .u64 pt] 101)).alloc (Obj.cells #[.int .i64 0, .int .u64 0, .int .u64 0, .bool false, .bool false, .int .u64 0] 257)).drewN nq = v2 at K1 K2 B1 S1 ⊢
  have P1 : Hid _ := K1
  have P2 : Hid _ := K2
  clear H1 H2 HW HS K1 K2
  obtain ⟨⟨x0, x1, x2, x3, x4, x5⟩, _⟩ := six_at P1.out
  obtain ⟨⟨y0, y1, y2, y3, y4, y5⟩, z0, z1, z2, z3, z4, z5⟩ := six_at P2.out
  have ne1 : v2.heap.size ≠ w.heap.size := by omega
  have ne2 : v2.heap.size ≠ w.heap.size + 1 := by omega
  have ne3 : w.heap.size < v2.heap.size := by omega
  have ne4 : w.heap.size + 1 < v2.heap.size := by omega
  clear HKL HTM
  go_wp2_with fail
  go_quiet ((go_at_call 187; exact Calls.quiet_of_same (HB.out _)))
  go_wp2_with fail
  exact bodyPost_ret (v := .tuple #[slotV ent0, .bool false]) (by simp [results, Tryz.results151, go_sem, slotV, ent0, y0, y1, y2, y3, y4, y5]) rfl ⟨rfl, belS6 (below_drewN B1 _) (by omega) _ _ _ _ _ _⟩

theorem slot_kP (lv tg asd pt tm : Int) (gl : Bool) (w : World) (HKL : Hid (∀ w, Calls Tryz.prog 185 #[.int .i64 lv] w fun e w' => e = .returned (.bool true) ∧ w' = w)) (HTM : Hid (∀ w, Calls Tryz.prog 186 #[.int .i64 lv] w fun e w' => e = .returned (.int .u64 tm) ∧ w' = w)) (h : tg ≤ tm) (h2 : asd ≤ 65535) (HB : Hid (∀ w, Calls Tryz.prog 187 #[.int .u64 pt, .int .u64 32] w fun e w' => e = .returned (.bool gl) ∧ w' = w)) (HGD : Hid (∀ w, Calls Tryz.prog 259 #[.int .u64 pt, .int .i64 lv] w fun e w' => e = .returned (.bool false) ∧ w' = w)) :
    Calls Tryz.prog 151 #[.agg #[.bool true, .int .i64 lv, .int .u64 tg, .int .u64 asd, .bool gl, .int .u64 pt]] w fun e w' => e = .returned (.tuple #[slotV ent0, .bool false]) ∧ Below w.heap.size w w' := by
  have hne2 : (gl != gl) = false := by simp
  have H1 : Hid (∀ k, (((w.alloc (Obj.cells #[.bool true, .int .i64 lv, .int .u64 tg, .int .u64 asd, .bool gl, .int .u64 pt] 101)).alloc (Obj.cells #[.int .i64 0, .int .u64 0, .int .u64 0, .bool false, .bool false, .int .u64 0] 257)).drewN k).heap[w.heap.size]? = some (.cells #[.bool true, .int .i64 lv, .int .u64 tg, .int .u64 asd, .bool gl, .int .u64 pt] 101 (0, 0))) := by
    intro k
    show ((w.alloc (Obj.cells #[.bool true, .int .i64 lv, .int .u64 tg, .int .u64 asd, .bool gl, .int .u64 pt] 101)).alloc (Obj.cells #[.int .i64 0, .int .u64 0, .int .u64 0, .bool false, .bool false, .int .u64 0] 257)).heap[w.heap.size]? = _
    rw [heap_alloc_old _ _ (by simp)]
    exact heap_alloc_new w _
  have H2 : Hid (∀ k, (((w.alloc (Obj.cells #[.bool true, .int .i64 lv, .int .u64 tg, .int .u64 asd, .bool gl, .int .u64 pt] 101)).alloc (Obj.cells #[.int .i64 0, .int .u64 0, .int .u64 0, .bool false, .bool false, .int .u64 0] 257)).drewN k).heap[w.heap.size + 1]? = some (.cells #[.int .i64 0, .int .u64 0, .int .u64 0, .bool false, .bool false, .int .u64 0] 257 (0, 0))) := by
    intro k
    have := heap_alloc_new (w.alloc (Obj.cells #[.bool true, .int .i64 lv, .int .u64 tg, .int .u64 asd, .bool gl, .int .u64 pt] 101)) (Obj.cells #[.int .i64 0, .int .u64 0, .int .u64 0, .bool false, .bool false, .int .u64 0] 257)
    simp only [World.size_alloc] at this
    exact this
  have n1 := ((Below.refl w.heap.size w).alloc (Nat.le_refl _) (Obj.cells #[.bool true, .int .i64 lv, .int .u64 tg, .int .u64 asd, .bool gl, .int .u64 pt] 101)).alloc (by simp) (Obj.cells #[.int .i64 0, .int .u64 0, .int .u64 0, .bool false, .bool false, .int .u64 0] 257)
  have HW : Hid (∀ k, Below w.heap.size w (((w.alloc (Obj.cells #[.bool true, .int .i64 lv, .int .u64 tg, .int .u64 asd, .bool gl, .int .u64 pt] 101)).alloc (Obj.cells #[.int .i64 0, .int .u64 0, .int .u64 0, .bool false, .bool false, .int .u64 0] 257)).drewN k)) := fun k => below_drewN n1 k
  have HS : Hid (∀ k, (((w.alloc (Obj.cells #[.bool true, .int .i64 lv, .int .u64 tg, .int .u64 asd, .bool gl, .int .u64 pt] 101)).alloc (Obj.cells #[.int .i64 0, .int .u64 0, .int .u64 0, .bool false, .bool false, .int .u64 0] 257)).drewN k).heap.size = w.heap.size + 2) := fun k => by show ((w.alloc (Obj.cells #[.bool true, .int .i64 lv, .int .u64 tg, .int .u64 asd, .bool gl, .int .u64 pt] 101)).alloc (Obj.cells #[.int .i64 0, .int .u64 0, .int .u64 0, .bool false, .bool false, .int .u64 0] 257)).heap.size = _; simp
  have hm := method_goodAtP pt
  clear n1
  go_enter Tryz.func151, Tryz.ntmps151
  go_wp2_with fail
  go_quiet (first
      | (go_at_call 185; exact Calls.quiet_of_same (HKL.out _))
      | (go_at_call 186; exact Calls.quiet_of_same (HTM.out _)))
  have K1 := H1.out nq
  have K2 := H2.out nq
  have B1 := HW.out nq
  have S1 := HS.out nq
  generalize ((w.alloc (Obj.cells #[.bool true, .int .i64 lv, .int .u64 tg, .int .u64 asd, .bool gl, .int .u64 pt] 101)).alloc (Obj.cells #[.int .i64 0, .int .u64 0, .int .u64 0, .bool false, .bool false, .int .u64 0] 257)).drewN nq = v2 at K1 K2 B1 S1 ⊢
  have P1 : Hid _ := K1
  have P2 : Hid _ := K2
  clear H1 H2 HW HS K1 K2
  obtain ⟨⟨x0, x1, x2, x3, x4, x5⟩, _⟩ := six_at P1.out
  obtain ⟨⟨y0, y1, y2, y3, y4, y5⟩, z0, z1, z2, z3, z4, z5⟩ := six_at P2.out
  have ne1 : v2.heap.size ≠ w.heap.size := by omega
  have ne2 : v2.heap.size ≠ w.heap.size + 1 := by omega
  have ne3 : w.heap.size < v2.heap.size := by omega
  have ne4 : w.heap.size + 1 < v2.heap.size := by omega
  clear HKL HTM
  go_wp2_with fail
  go_quiet (first
      | (go_at_call 187; exact Calls.quiet_of_same (HB.out _))
      | (go_at_call 259; exact Calls.quiet_of_same (HGD.out _)))
  go_wp2_with fail
  exact bodyPost_ret (v := .tuple #[slotV ent0, .bool false]) (by simp [results, Tryz.results151, go_sem, slotV, ent0, y0, y1, y2, y3, y4, y5]) rfl ⟨rfl, belS6 (below_drewN B1 _) (by omega) _ _ _ _ _ _⟩

theorem slot_okP (lv tg asd pt tm : Int) (gl : Bool) (w : World) (HKL : Hid (∀ w, Calls Tryz.prog 185 #[.int .i64 lv] w fun e w' => e = .returned (.bool true) ∧ w' = w)) (HTM : Hid (∀ w, Calls Tryz.prog 186 #[.int .i64 lv] w fun e w' => e = .returned (.int .u64 tm) ∧ w' = w)) (h : tg ≤ tm) (h2 : asd ≤ 65535) (HB : Hid (∀ w, Calls Tryz.prog 187 #[.int .u64 pt, .int .u64 32] w fun e w' => e = .returned (.bool gl) ∧ w' = w)) (HGD : Hid (∀ w, Calls Tryz.prog 259 #[.int .u64 pt, .int .i64 lv] w fun e w' => e = .returned (.bool true) ∧ w' = w)) :
    Calls Tryz.prog 151 #[.agg #[.bool true, .int .i64 lv, .int .u64 tg, .int .u64 asd, .bool gl, .int .u64 pt]] w fun e w' => e = .returned (.tuple #[slotV ⟨true, lv, tg, asd, gl, pt⟩, .bool true]) ∧ Below w.heap.size w w' := by
  have hne2 : (gl != gl) = false := by simp
  have H1 : Hid (∀ k, (((w.alloc (Obj.cells #[.bool true, .int .i64 lv, .int .u64 tg, .int .u64 asd, .bool gl, .int .u64 pt] 101)).alloc (Obj.cells #[.int .i64 0, .int .u64 0, .int .u64 0, .bool false, .bool false, .int .u64 0] 257)).drewN k).heap[w.heap.size]? = some (.cells #[.bool true, .int .i64 lv, .int .u64 tg, .int .u64 asd, .bool gl, .int .u64 pt] 101 (0, 0))) := by
    intro k
    show ((w.alloc (Obj.cells #[.bool true, .int .i64 lv, .int .u64 tg, .int .u64 asd, .bool gl, .int .u64 pt] 101)).alloc (Obj.cells #[.int .i64 0, .int .u64 0, .int .u64 0, .bool false, .bool false, .int .u64 0] 257)).heap[w.heap.size]? = _
    rw [heap_alloc_old _ _ (by simp)]
    exact heap_alloc_new w _
  have H2 : Hid (∀ k, (((w.alloc (Obj.cells #[.bool true, .int .i64 lv, .int .u64 tg, .int .u64 asd, .bool gl, .int .u64 pt] 101)).alloc (Obj.cells #[.int .i64 0, .int .u64 0, .int .u64 0, .bool false, .bool false, .int .u64 0] 257)).drewN k).heap[w.heap.size + 1]? = some (.cells #[.int .i64 0, .int .u64 0, .int .u64 0, .bool false, .bool false, .int .u64 0] 257 (0, 0))) := by
    intro k
    have := heap_alloc_new (w.alloc (Obj.cells #[.bool true, .int .i64 lv, .int .u64 tg, .int .u64 asd, .bool gl, .int .u64 pt] 101)) (Obj.cells #[.int .i64 0, .int .u64 0, .int .u64 0, .bool false, .bool false, .int .u64 0] 257)
    simp only [World.size_alloc] at this
    exact this
  have n1 := ((Below.refl w.heap.size w).alloc (Nat.le_refl _) (Obj.cells #[.bool true, .int .i64 lv, .int .u64 tg, .int .u64 asd, .bool gl, .int .u64 pt] 101)).alloc (by simp) (Obj.cells #[.int .i64 0, .int .u64 0, .int .u64 0, .bool false, .bool false, .int .u64 0] 257)
  have HW : Hid (∀ k, Below w.heap.size w (((w.alloc (Obj.cells #[.bool true, .int .i64 lv, .int .u64 tg, .int .u64 asd, .bool gl, .int .u64 pt] 101)).alloc (Obj.cells #[.int .i64 0, .int .u64 0, .int .u64 0, .bool false, .bool false, .int .u64 0] 257)).drewN k)) := fun k => below_drewN n1 k
  have HS : Hid (∀ k, (((w.alloc (Obj.cells #[.bool true, .int .i64 lv, .int .u64 tg, .int .u64 asd, .bool gl, .int .u64 pt] 101)).alloc (Obj.cells #[.int .i64 0, .int .u64 0, .int .u64 0, .bool false, .bool false, .int .u64 0] 257)).drewN k).heap.size = w.heap.size + 2) := fun k => by show ((w.alloc (Obj.cells #[.bool true, .int .i64 lv, .int .u64 tg, .int .u64 asd, .bool gl, .int .u64 pt] 101)).alloc (Obj.cells #[.int .i64 0, .int .u64 0, .int .u64 0, .bool false, .bool false, .int .u64 0] 257)).heap.size = _; simp
  have hm := method_goodAtP pt
  clear n1
  go_enter Tryz.func151, Tryz.ntmps151
  go_wp2_with fail
  go_quiet (first
      | (go_at_call 185; exact Calls.quiet_of_same (HKL.out _))
      | (go_at_call 186; exact Calls.quiet_of_same (HTM.out _)))
  have K1 := H1.out nq
  have K2 := H2.out nq
  have B1 := HW.out nq
  have S1 := HS.out nq
  generalize ((w.alloc (Obj.cells #[.bool true, .int .i64 lv, .int .u64 tg, .int .u64 asd, .bool gl, .int .u64 pt] 101)).alloc (Obj.cells #[.int .i64 0, .int .u64 0, .int .u64 0, .bool false, .bool false, .int .u64 0] 257)).drewN nq = v2 at K1 K2 B1 S1 ⊢
  have P1 : Hid _ := K1
  have P2 : Hid _ := K2
  clear H1 H2 HW HS K1 K2
  obtain ⟨⟨x0, x1, x2, x3, x4, x5⟩, _⟩ := six_at P1.out
  obtain ⟨⟨y0, y1, y2, y3, y4, y5⟩, z0, z1, z2, z3, z4, z5⟩ := six_at P2.out
  have ne1 : v2.heap.size ≠ w.heap.size := by omega
  have ne2 : v2.heap.size ≠ w.heap.size + 1 := by omega
  have ne3 : w.heap.size < v2.heap.size := by omega
  have ne4 : w.heap.size + 1 < v2.heap.size := by omega
  clear HKL HTM
  go_wp2_with fail
  go_quiet (first
      | (go_at_call 187; exact Calls.quiet_of_same (HB.out _))
      | (go_at_call 259; exact Calls.quiet_of_same (HGD.out _)))
  go_wp2_with fail
  exact bodyPost_ret (v := .tuple #[slotV ⟨true, lv, tg, asd, gl, pt⟩, .bool true]) (by simp [results, Tryz.results151, go_sem, slotV, y0, y1, y2, y3, y4, y5, ne4]) rfl ⟨rfl, (belS6 (below_drewN B1 nq) (by omega) _ _ _ _ _ _).alloc (by simp; omega) _⟩

theorem slotOfP_any (x : EntM) (w : World) (hx : entOk x) :
    Calls Tryz.prog 151 #[entV x] w fun e w' => e = .returned (.tuple #[slotV (if goodEntM x true = true then x else ent0), .bool (goodEntM x true)]) ∧ Below w.heap.size w w' := by
  obtain ⟨v, lv, tg, asd, gl, pt⟩ := x
  obtain ⟨⟨a1, a2⟩, ⟨b1, b2⟩, ⟨c1, c2⟩, d1, d2⟩ := hx
  simp only at a1 a2 b1 b2 c1 c2 d1 d2
  unfold entV
  simp only
  cases v
  · rw [show goodEntM ⟨false, lv, tg, asd, gl, pt⟩ true = false by simp [goodEntM]]
    exact slot_vP lv tg asd pt 0 gl w
  by_cases h0 : ¬ (0 ≤ lv ∧ lv ≤ 2)
  · rw [show goodEntM ⟨true, lv, tg, asd, gl, pt⟩ true = false by simp [goodEntM]; omega]
    exact slot_lP lv tg asd pt 0 gl w (fun w => by
      have := knownLevel_at lv w
      rw [show decide (0 ≤ lv ∧ lv ≤ 2) = false by simpa using h0] at this
      exact this)
  have h0' : 0 ≤ lv ∧ lv ≤ 2 := Decidable.not_not.1 h0
  have HKL : Hid (∀ w, Calls Tryz.prog 185 #[.int .i64 lv] w fun e w' => e = .returned (.bool true) ∧ w' = w) := fun w => by
    have := knownLevel_at lv w
    rw [show decide (0 ≤ lv ∧ lv ≤ 2) = true by simpa using h0'] at this
    exact this
  obtain ⟨tm, htm⟩ : ∃ tm, pow9 lv - 1 = tm := ⟨_, rfl⟩
  have HTM : Hid (∀ w, Calls Tryz.prog 186 #[.int .i64 lv] w fun e w' => e = .returned (.int .u64 tm) ∧ w' = w) := fun w => by
    have := tagMask_at lv w (by omega)
    rw [htm] at this
    exact this
  by_cases h1 : ¬ (tg ≤ tm)
  · rw [show goodEntM ⟨true, lv, tg, asd, gl, pt⟩ true = false by simp [goodEntM]; omega]
    exact slot_tP lv tg asd pt tm gl w HKL HTM h1
  have h1' : tg ≤ tm := Decidable.not_not.1 h1
  by_cases h2 : ¬ (asd ≤ 65535)
  · rw [show goodEntM ⟨true, lv, tg, asd, gl, pt⟩ true = false by simp [goodEntM]; omega]
    exact slot_aP lv tg asd pt tm gl w HKL HTM h1' h2
  have h2' : asd ≤ 65535 := Decidable.not_not.1 h2
  have hgood : goodEntM ⟨true, lv, tg, asd, gl, pt⟩ true = ((gl == bitB pt 32) && (kindM pt lv == 1)) := by
    simp only [goodEntM, wantM]
    simp [h0'.1, h0'.2, h2', show tg < pow9 lv by omega]
  rw [hgood]
  obtain ⟨g5, hg5⟩ : ∃ g5, bitB pt 32 = g5 := ⟨_, rfl⟩
  obtain ⟨gd, hgd⟩ : ∃ gd, (kindM pt lv == 1) = gd := ⟨_, rfl⟩
  have HB : Hid (∀ w, Calls Tryz.prog 187 #[.int .u64 pt, .int .u64 32] w fun e w' => e = .returned (.bool g5) ∧ w' = w) := fun w => by
    have := hasAny_at pt 32 w
    rw [anyB_bit 5 pt 32 rfl (by omega) d1 d2, hg5] at this
    exact this
  have HGD : Hid (∀ w, Calls Tryz.prog 259 #[.int .u64 pt, .int .i64 lv] w fun e w' => e = .returned (.bool gd) ∧ w' = w) := fun w => by
    have := goodAtP_at pt lv w d1 d2
    rw [hgd] at this
    exact this
  rw [hg5, hgd]
  cases hq : (gl == g5)
  · exact slot_gP lv tg asd pt tm gl g5 w HKL HTM h1' h2' HB hq
  · have hq' : gl = g5 := by simpa using hq
    subst hq'
    cases gd
    · exact slot_kP lv tg asd pt tm gl w HKL HTM h1' h2' HB HGD
    · exact slot_okP lv tg asd pt tm gl w HKL HTM h1' h2' HB HGD

end Go.Proofs.YthekickjjaleaacGreat

/- The program's setOf, for one kind of cache. Written by mk4.py. -/
namespace Go.Proofs.YthekickjjaleaacGreat
open Go.RowKit
set_option linter.unusedVariables false

theorem setOfP_at (b o : Nat) (sets tag : Int) (w : World) (hs : sets = 1 ∨ sets = 2 ∨ sets = 4 ∨ sets = 8) (c0 : w.cell? ⟨b, o, none⟩ = some (.int .i64 sets)) (ht : 0 ≤ tag) (ht1 : tag ≤ 18446744073709551615) :
    Calls Tryz.prog 152 #[.pointer (some ⟨b, o, none⟩), .int .u64 tag] w fun e w' => e = .returned (.int .i64 (tag % sets)) ∧ w' = w := by
  rcases hs with rfl | rfl | rfl | rfl
  all_goals
    go_enter Tryz.func152, Tryz.ntmps152
    go_wp2_with fail
    go_ret
    exact ⟨ret_i64 (by omega), rfl⟩

end Go.Proofs.YthekickjjaleaacGreat

/- The program's spans and fits. -/
namespace Go.Proofs.YthekickjjaleaacGreat
open Go.RowKit
set_option linter.unusedVariables false

theorem spans_any (lv tg asd va : Int) (gl : Bool) (w : World) (hl : lv = 0 ∨ lv = 1 ∨ lv = 2) (hv0 : 0 ≤ va) (hv1 : va ≤ 18446744073709551615) :
    Calls Tryz.prog 188 #[.agg #[.int .i64 lv, .int .u64 tg, .int .u64 asd, .bool gl], .int .u64 va] w fun e w' => e = .returned (.bool (tg == tagM va lv)) ∧ Below w.heap.size w w' := by
  have n1 := (Below.refl w.heap.size w).alloc (Nat.le_refl _) (Obj.cells #[.int .i64 lv, .int .u64 tg, .int .u64 asd, .bool gl] 209)
  obtain ⟨tm, htm⟩ : ∃ tm, tagM va lv = tm := ⟨_, rfl⟩
  have HT : Hid (∀ w, Calls Tryz.prog 154 #[.int .u64 va, .int .i64 lv] w fun e w' => e = .returned (.int .u64 tm) ∧ ∃ n, w' = w.drewN n) := fun w => by
    have := tag_at va lv w hv0 hv1 hl
    rw [htm] at this
    exact this
  rw [htm]
  clear htm
  go_enter Tryz.func188, Tryz.ntmps188
  go_wp2_with fail
  go_quiet ((go_at_call 154; exact Calls.quiet_of (HT.out _)))
  go_wp2_with fail
  go_ret
  exact ⟨rfl, below_drewN n1 nq⟩

theorem fits_any (lv tg asd va asid : Int) (gl : Bool) (w : World) (hl : lv = 0 ∨ lv = 1 ∨ lv = 2) (hv0 : 0 ≤ va) (hv1 : va ≤ 18446744073709551615) :
    Calls Tryz.prog 155 #[.agg #[.int .i64 lv, .int .u64 tg, .int .u64 asd, .bool gl], .int .u64 va, .int .u64 asid] w fun e w' => e = .returned (.bool ((tg == tagM va lv) && (gl || asd == asid))) ∧ Below w.heap.size w w' := by
  have n1 := (Below.refl w.heap.size w).alloc (Nat.le_refl _) (Obj.cells #[.int .i64 lv, .int .u64 tg, .int .u64 asd, .bool gl] 209)
  have H1 : Hid ((w.alloc (Obj.cells #[.int .i64 lv, .int .u64 tg, .int .u64 asd, .bool gl] 209)).heap[w.heap.size]? = some (.cells #[.int .i64 lv, .int .u64 tg, .int .u64 asd, .bool gl] 209 (0, 0))) := heap_alloc_new w _
  obtain ⟨sb, hsb⟩ : ∃ sb, (tg == tagM va lv) = sb := ⟨_, rfl⟩
  have HS : Hid (∀ w, Calls Tryz.prog 188 #[.agg #[.int .i64 lv, .int .u64 tg, .int .u64 asd, .bool gl], .int .u64 va] w fun e w' => e = .returned (.bool sb) ∧ Below w.heap.size w w') := fun w => by
    have := spans_any lv tg asd va gl w hl hv0 hv1
    rw [hsb] at this
    exact this
  rw [hsb]
  clear hsb
  cases sb <;> cases gl
  all_goals
    go_enter Tryz.func155, Tryz.ntmps155
    go_wp2_with fail
    generalize hv1 : w.alloc _ = v1 at n1 H1 ⊢
    refine (HS.out v1).mono ?_
    rintro e v2 ⟨rfl, n2⟩
    have K1 := heap_keep H1.out n2 (Array.getElem?_eq_some_iff.1 H1.out).1
    obtain ⟨⟨x0, x1, x2, x3⟩, _, _, _, _⟩ := four_cells K1
    have A2 := Below.step n1 n2 (Nat.le_refl _)
    go_wp2_with fail
    go_ret
    exact ⟨ret_bool (by simp), A2⟩

end Go.Proofs.YthekickjjaleaacGreat

/- The program's find, for one kind of cache. Written by mk4.py. -/
namespace Go.Proofs.YthekickjjaleaacGreat
open Go.RowKit
set_option linter.unusedVariables false
attribute [local go_sem ↓] Go.wp_at_zero Go.wp_at_succ

set_option maxRecDepth 20000 in
set_option maxHeartbeats 3200000 in
theorem findP_any (b o g n : Nat) (t : TlbM) (va asid : Int) (w : World) (hn : t.es.length = n) (hn1 : n ≤ 1048576) (hv : validM t true = true) (hbl : b < w.heap.size)
    (c0 : w.cell? ⟨b, o, none⟩ = some (.int .i64 t.sets)) (c1 : w.cell? ⟨b, o + 1, none⟩ = some (.int .i64 t.ways)) (c2 : w.cell? ⟨b, o + 2, none⟩ = some (.slice (some ⟨g, 0, none⟩) n n)) (hr : RowC w (some ⟨g, 0, none⟩) n 6 (slotsC t.es)) (hv0 : 0 ≤ va) (hv1 : va ≤ 18446744073709551615) :
    Calls Tryz.prog 189 #[.pointer (some ⟨b, o, none⟩), .int .u64 va, .int .u64 asid] w fun e w' => e = .returned (.tuple #[.int .i64 (hitM t va asid).2.1, .bool (hitM t va asid).1]) ∧ Below w.heap.size w w' := by
  obtain ⟨hs4, hw1, hw4, hnw⟩ := shape_at hv
  have HV : Hid (validM t true = true) := hv
  have HEi : Hid (eitherM t = true) := either_of hv
  have HR : Hid (RowC w (some ⟨g, 0, none⟩) n 6 (slotsC t.es)) := hr
  have HN : Hid (t.es.length = n) := hn
  have HNw : Hid ((n : Int) = t.sets * t.ways) := by show _ = _; rw [← hn]; exact hnw
  obtain ⟨X, hX⟩ : ∃ X, hitM t va asid = X := ⟨_, rfl⟩
  have HX : Hid (hitM t va asid = X) := hX
  rw [hX]
  clear hX hv hr hnw hn
  obtain ⟨sets, ways, es⟩ := t
  simp only at *
  go_enter Tryz.func189, Tryz.ntmps189
  go_wp2_with fail
  go_loopw [12] (fun i wr => ∃ l : Nat, l ≤ 3 ∧ i = .int .i64 l ∧ Hid (∀ l' : Nat, l' < l → findL va asid l' 0 es = none) ∧ Below w.heap.size w wr) (fun i _ => 3 - (intOf i).toNat)
  case atStart => exact ⟨0, by omega, rfl, fun l' h => absurd h (by omega), Below.refl _ _⟩
  case round =>
    obtain ⟨l, hl, rfl, HF, hb⟩ := hrel
    by_cases hlt : l < 3
    · have hl3 : (l : Int) = 0 ∨ (l : Int) = 1 ∨ (l : Int) = 2 := by omega
      obtain ⟨tm, htm⟩ : ∃ tm, tagM va l = tm := ⟨_, rfl⟩
      have htb := tagM_lim va l hl3
      rw [htm] at htb
      obtain ⟨sx, hsx⟩ : ∃ sx, tm % sets = sx := ⟨_, rfl⟩
      have hsb : 0 ≤ sx ∧ sx < sets := by rw [← hsx]; exact ⟨Int.emod_nonneg _ (by omega), Int.emod_lt_of_pos _ (by omega)⟩
      obtain ⟨f, hf⟩ : ∃ f : Nat, (f : Int) = sx * ways := ⟨(sx * ways).toNat, Int.toNat_of_nonneg (Int.mul_nonneg hsb.1 (by omega))⟩
      have hfn : (f : Int) + ways ≤ n := by
        rw [HNw.out, hf]
        have : (sx + 1) * ways ≤ sets * ways := Int.mul_le_mul_of_nonneg_right (by omega) (by omega)
        rw [Int.add_mul, Int.one_mul] at this
        exact this
      have HFi : Hid ((f : Int) = tagM va l % sets * ways) := by show _ = _; rw [htm, hsx]; exact hf
      have HWm : Hid (sx * ways = (f : Int)) := hf.symm
      have r0 : wr.cell? ⟨b, o, none⟩ = some (.int .i64 sets) := Below.cell2 hb c0 hbl
      have r1 : wr.cell? ⟨b, o + 1, none⟩ = some (.int .i64 ways) := Below.cell2 hb c1 hbl
      have HTg : Hid (∀ u, Calls Tryz.prog 154 #[.int .u64 va, .int .i64 l] u fun e w' => e = .returned (.int .u64 tm) ∧ ∃ q, w' = u.drewN q) := fun u => by
        have := tag_at va l u hv0 hv1 hl3
        rw [htm] at this
        exact this
      have HSt : Hid (∀ q, Calls Tryz.prog 152 #[.pointer (some ⟨b, o, none⟩), .int .u64 tm] (wr.drewN q) fun e w' => e = .returned (.int .i64 sx) ∧ w' = wr.drewN q) := fun q => by
        have := setOfP_at b o sets tm (wr.drewN q) hs4 r0 htb.1 (by omega)
        rw [hsx] at this
        exact this
      clear htm hsx
      go_wp2_with fail
      go_cut [9] (fun s9 wx => s9 = .int .i64 f ∧ ∃ q, wx = wr.drewN q)
      case first =>
        go_quiet (first
          | (go_at_call 154; exact Calls.quiet_of (HTg.out _))
          | (go_at_call 152; exact Calls.quiet_of_same (HSt.out _)))
        go_wp2_with fail
        go_meet
        exact ⟨by rw [HWm.out], nq, rfl⟩
      case rest =>
        obtain ⟨rfl, q, rfl⟩ := hcut
        have hb2 : Below w.heap.size w (wr.drewN q) := below_drewN hb q
        generalize wr.drewN q = v2 at hb2 ⊢
        clear r0 r1 hb HTg HSt HWm hsb hf
        go_wp2_with fail
        rename_i wr0
        go_loopw [10] (fun i wr => ∃ q : Nat, f ≤ q ∧ (q : Int) ≤ f + ways ∧ i = .int .i64 q ∧ Hid (∀ (q' : Nat) x, f ≤ q' → q' < q → es[q']? = some x → hitB va asid l x = false) ∧ Below w.heap.size w wr) (fun i _ => f + 4 - (intOf i).toNat)
        case atStart => exact ⟨f, Nat.le_refl _, by omega, rfl, fun q' x h h' => absurd h' (by omega), hb2⟩
        case round =>
          obtain ⟨q, hq1, hq2, rfl, HQ, hb3⟩ := hrel
          have r1 : wr.cell? ⟨b, o + 1, none⟩ = some (.int .i64 ways) := Below.cell2 hb3 c1 hbl
          have r2 : wr.cell? ⟨b, o + 2, none⟩ = some (.slice (some ⟨g, 0, none⟩) n n) := Below.cell2 hb3 c2 hbl
          by_cases hqt : (q : Int) < f + ways
          · have hqn : q < n := by omega
            obtain ⟨⟨vv, lv, tg, asd, gl, pt⟩, hx⟩ : ∃ x, es[q]? = some x := ⟨_, List.getElem?_eq_getElem (by rw [HN.out]; exact hqn)⟩
            have HXq : Hid (es[q]? = some ⟨vv, lv, tg, asd, gl, pt⟩) := hx
            have CE : ∀ j u, j < 6 → (slotC ⟨vv, lv, tg, asd, gl, pt⟩)[j]? = some u → wr.cell? ⟨g, q * 6 + j, none⟩ = some u := fun j u hj hu => slotRow_cell (HR.out.keep hb3) HN.out q _ hx j u hj hu
            have g0 : wr.cell? ⟨g, q * 6, none⟩ = some (.int .i64 lv) := CE 0 _ (by omega) rfl
            have g1 : wr.cell? ⟨g, q * 6 + 1, none⟩ = some (.int .u64 tg) := CE 1 _ (by omega) rfl
            have g2 : wr.cell? ⟨g, q * 6 + 2, none⟩ = some (.int .u64 asd) := CE 2 _ (by omega) rfl
            have g3 : wr.cell? ⟨g, q * 6 + 3, none⟩ = some (.bool gl) := CE 3 _ (by omega) rfl
            have g4 : wr.cell? ⟨g, q * 6 + 4, none⟩ = some (.bool vv) := CE 4 _ (by omega) rfl
            have HNx : Hid (hitB va asid l ⟨vv, lv, tg, asd, gl, pt⟩ = false → ∀ (q' : Nat) x, f ≤ q' → q' < q + 1 → es[q']? = some x → hitB va asid l x = false) := fun h q' x h1 h2 h3 => by
              by_cases e : q' = q
              · subst e; rw [HXq.out] at h3; cases h3; exact h
              · exact HQ.out q' x h1 (by omega) h3
            clear CE hx
            cases vv
            · go_wp2_with fail
              go_roundw
              case rel => exact ⟨q + 1, by omega, by omega, by go_num, HNx.out (by simp [hitB, fitsM]), hb3⟩
              case measure => simp [intOf]; omega
            · by_cases hlv : lv = l
              · subst hlv
                obtain ⟨fb, hfb⟩ : ∃ fb, ((tg == tagM va l) && (gl || asd == asid)) = fb := ⟨_, rfl⟩
                have HFt : Hid (∀ u, Calls Tryz.prog 155 #[.agg #[.int .i64 l, .int .u64 tg, .int .u64 asd, .bool gl], .int .u64 va, .int .u64 asid] u fun e w' => e = .returned (.bool fb) ∧ Below u.heap.size u w') := fun u => by
                  have := fits_any l tg asd va asid gl u hl3 hv0 hv1
                  rw [hfb] at this
                  exact this
                have HHb : Hid (hitB va asid l ⟨true, l, tg, asd, gl, pt⟩ = fb) := by
                  show _ = _
                  rw [← hfb]
                  simp [hitB, fitsM]
                clear hfb
                go_wp2_with fail
                refine (HFt.out wr).mono ?_
                rintro e v5 ⟨rfl, n5⟩
                have A5 := Below.step hb3 n5 (Nat.le_refl _)
                cases fb
                · go_wp2_with fail
                  go_roundw
                  case rel => exact ⟨q + 1, by omega, by omega, by go_num, HNx.out HHb.out, A5⟩
                  case measure => simp [intOf]; omega
                · have hx : X = (true, (q : Int), (l : Int), pt) := by
                    rw [← HX.out]
                    have hfi := find_some (t := ⟨sets, ways, es⟩) (k := q - f) HV.out HFi.out (by simp only; rw [show f + (q - f) = q by omega]; exact HXq.out) HHb.out (fun j y hj hy => HQ.out (f + j) y (by omega) (by omega) hy)
                    rw [show f + (q - f) = q by omega] at hfi
                    exact hitM_at ⟨sets, ways, es⟩ va asid l q _ HEi.out (by omega) HF.out hfi
                  subst hx
                  go_wp2_with fail
                  exact bodyPost_ret (v := .tuple #[.int .i64 q, .bool true]) (by simp [results, Tryz.results189, go_sem]) rfl ⟨rfl, A5⟩
              · have hlv' : (lv == (l : Int)) = false := by simpa using hlv
                go_wp2_with fail
                go_roundw
                case rel => exact ⟨q + 1, by omega, by omega, by go_num, HNx.out (by simp [hitB, hlv]), hb3⟩
                case measure => simp [intOf]; omega
          · have hqe : (q : Int) = f + ways := by omega
            have hnn : findL va asid l 0 es = none := find_none (t := ⟨sets, ways, es⟩) HV.out HFi.out (fun j x hj hx => HQ.out (f + j) x (by omega) (by simp only at hj; omega) hx)
            have HNn : Hid (findL va asid l 0 es = none) := hnn
            clear hnn
            go_wp2_with fail
            go_roundw
            case rel => exact ⟨l + 1, by omega, by go_num, fun l' hl' => by
              by_cases e : l' = l
              · subst e; exact HNn.out
              · exact HF.out l' (by omega), hb3⟩
            case measure => simp [intOf]; omega
    · have hl3 : l = 3 := by omega
      subst hl3
      have hx : X = (false, 0, 0, 0) := by
        rw [← HX.out]
        exact hitM_none _ va asid HEi.out HF.out
      subst hx
      go_wp2_with fail
      exact bodyPost_ret (v := .tuple #[.int .i64 0, .bool false]) (by simp [results, Tryz.results189, go_sem]) rfl ⟨rfl, hb⟩

end Go.Proofs.YthekickjjaleaacGreat
