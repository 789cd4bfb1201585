import Derived.Test.YthekickjjaleaacPack09
import Derived.Test.YthekickjjaleaacPack05
import Derived.Test.YthekickjjaleaacPack14
import Derived.Test.YthekickjjaleaacPack03
/- The program's chapter 4: tags, address spaces, what a cache of leaves or of pointers may hold. -/
namespace Go.Proofs.Ythekickjjaleaac
open Go.RowKit
set_option linter.unusedVariables false

theorem tagMask_at (level : Int) (w : World) (hl : level = 0 ∨ level = 1 ∨ level = 2) :
    Calls Try.prog 81 #[.int .i64 level] w fun e w' => e = .returned (.int .u64 (pow9 level - 1)) ∧ w' = w := by
  rcases hl with rfl | rfl | rfl
  all_goals
    go_enter Try.func81, Try.ntmps81
    go_wp2_with (go_at_call 85; refine (lowBits_at 15 32767 _ (by omega)).mono ?_; rintro e w' ⟨rfl, rfl⟩)
    go_ret
    exact ⟨ret_u64 (by decide), rfl⟩

theorem goodAtL_at (x level : Int) (w : World) (h0 : 0 ≤ x) (h1 : x ≤ 18446744073709551615) :
    Calls Try.prog 102 #[.int .u64 x, .int .i64 level] w fun e w' => e = .returned (.bool (kindM x level == 2)) ∧ w' = w := by
  go_enter Try.func102, Try.ntmps102
  go_wp2_with (go_at_call 103; refine (kind_at x level _ h0 h1).mono ?_; rintro e w' ⟨rfl, rfl⟩)
  go_ret
  exact ⟨ret_bool (by simp), rfl⟩

theorem goodAtP_at (x level : Int) (w : World) (h0 : 0 ≤ x) (h1 : x ≤ 18446744073709551615) :
    Calls Try.prog 108 #[.int .u64 x, .int .i64 level] w fun e w' => e = .returned (.bool (kindM x level == 1)) ∧ w' = w := by
  go_enter Try.func108, Try.ntmps108
  go_wp2_with (go_at_call 103; refine (kind_at x level _ h0 h1).mono ?_; rintro e w' ⟨rfl, rfl⟩)
  go_ret
  exact ⟨ret_bool (by simp), rfl⟩

end Go.Proofs.Ythekickjjaleaac

/- The program's slotOf, for one kind of cache. Written by mk4.py. -/
namespace Go.Proofs.Ythekickjjaleaac
open Go.RowKit
set_option linter.unusedVariables false

theorem method_goodAtL (x : Int) (w : World) : (method 263 105 (.int .u64 x) "loop.example/s0051/impl.goodAt").run Try.prog w = .ok (102, .int .u64 x) w := by kernel_rfl

theorem slot_vL (lv tg asd pt tm : Int) (gl : Bool) (w : World)  :
    Calls Try.prog 70 #[.agg #[.bool false, .int .i64 lv, .int .u64 tg, .int .u64 asd, .bool gl, .int .u64 pt]] w fun e w' => e = .returned (.tuple #[slotV ent0, .bool false]) ∧ Below w.heap.size w w' := by
  have n1 := ((Below.refl w.heap.size w).alloc (Nat.le_refl _) (Obj.cells #[.bool false, .int .i64 lv, .int .u64 tg, .int .u64 asd, .bool gl, .int .u64 pt] 91)).alloc (by simp) (Obj.cells #[.int .i64 0, .int .u64 0, .int .u64 0, .bool false, .bool false, .int .u64 0] 120)
  go_enter Try.func70, Try.ntmps70
  go_wp2_with fail
  go_quiet (fail)
  go_wp2_with fail
  exact bodyPost_ret (v := .tuple #[slotV ent0, .bool false]) (by simp [results, Try.results70, go_sem, slotV, ent0]) rfl ⟨rfl, belS6 (below_drewN n1 nq) (by omega) _ _ _ _ _ _⟩

theorem slot_lL (lv tg asd pt tm : Int) (gl : Bool) (w : World) (HKL : Hid (∀ w, Calls Try.prog 80 #[.int .i64 lv] w fun e w' => e = .returned (.bool false) ∧ w' = w)) :
    Calls Try.prog 70 #[.agg #[.bool true, .int .i64 lv, .int .u64 tg, .int .u64 asd, .bool gl, .int .u64 pt]] w fun e w' => e = .returned (.tuple #[slotV ent0, .bool false]) ∧ Below w.heap.size w w' := by
  have n1 := ((Below.refl w.heap.size w).alloc (Nat.le_refl _) (Obj.cells #[.bool true, .int .i64 lv, .int .u64 tg, .int .u64 asd, .bool gl, .int .u64 pt] 91)).alloc (by simp) (Obj.cells #[.int .i64 0, .int .u64 0, .int .u64 0, .bool false, .bool false, .int .u64 0] 120)
  go_enter Try.func70, Try.ntmps70
  go_wp2_with fail
  go_quiet ((go_at_call 80; exact Calls.quiet_of_same (HKL.out _)))
  go_wp2_with fail
  exact bodyPost_ret (v := .tuple #[slotV ent0, .bool false]) (by simp [results, Try.results70, go_sem, slotV, ent0]) rfl ⟨rfl, belS6 (below_drewN n1 nq) (by omega) _ _ _ _ _ _⟩

theorem slot_tL (lv tg asd pt tm : Int) (gl : Bool) (w : World) (HKL : Hid (∀ w, Calls Try.prog 80 #[.int .i64 lv] w fun e w' => e = .returned (.bool true) ∧ w' = w)) (HTM : Hid (∀ w, Calls Try.prog 81 #[.int .i64 lv] w fun e w' => e = .returned (.int .u64 tm) ∧ w' = w)) (h : ¬ (tg ≤ tm)) :
    Calls Try.prog 70 #[.agg #[.bool true, .int .i64 lv, .int .u64 tg, .int .u64 asd, .bool gl, .int .u64 pt]] w fun e w' => e = .returned (.tuple #[slotV ent0, .bool false]) ∧ Below w.heap.size w w' := by
  have n1 := ((Below.refl w.heap.size w).alloc (Nat.le_refl _) (Obj.cells #[.bool true, .int .i64 lv, .int .u64 tg, .int .u64 asd, .bool gl, .int .u64 pt] 91)).alloc (by simp) (Obj.cells #[.int .i64 0, .int .u64 0, .int .u64 0, .bool false, .bool false, .int .u64 0] 120)
  go_enter Try.func70, Try.ntmps70
  go_wp2_with fail
  go_quiet (first
      | (go_at_call 80; exact Calls.quiet_of_same (HKL.out _))
      | (go_at_call 81; exact Calls.quiet_of_same (HTM.out _)))
  go_wp2_with fail
  exact bodyPost_ret (v := .tuple #[slotV ent0, .bool false]) (by simp [results, Try.results70, go_sem, slotV, ent0]) rfl ⟨rfl, belS6 (below_drewN n1 nq) (by omega) _ _ _ _ _ _⟩

theorem slot_aL (lv tg asd pt tm : Int) (gl : Bool) (w : World) (HKL : Hid (∀ w, Calls Try.prog 80 #[.int .i64 lv] w fun e w' => e = .returned (.bool true) ∧ w' = w)) (HTM : Hid (∀ w, Calls Try.prog 81 #[.int .i64 lv] w fun e w' => e = .returned (.int .u64 tm) ∧ w' = w)) (h : tg ≤ tm) (h2 : ¬ (asd ≤ 65535)) :
    Calls Try.prog 70 #[.agg #[.bool true, .int .i64 lv, .int .u64 tg, .int .u64 asd, .bool gl, .int .u64 pt]] w fun e w' => e = .returned (.tuple #[slotV ent0, .bool false]) ∧ Below w.heap.size w w' := by
  have n1 := ((Below.refl w.heap.size w).alloc (Nat.le_refl _) (Obj.cells #[.bool true, .int .i64 lv, .int .u64 tg, .int .u64 asd, .bool gl, .int .u64 pt] 91)).alloc (by simp) (Obj.cells #[.int .i64 0, .int .u64 0, .int .u64 0, .bool false, .bool false, .int .u64 0] 120)
  go_enter Try.func70, Try.ntmps70
  go_wp2_with fail
  go_quiet (first
      | (go_at_call 80; exact Calls.quiet_of_same (HKL.out _))
      | (go_at_call 81; exact Calls.quiet_of_same (HTM.out _)))
  go_wp2_with fail
  exact bodyPost_ret (v := .tuple #[slotV ent0, .bool false]) (by simp [results, Try.results70, go_sem, slotV, ent0]) rfl ⟨rfl, belS6 (below_drewN n1 nq) (by omega) _ _ _ _ _ _⟩

theorem slot_gL (lv tg asd pt tm : Int) (gl g5 : Bool) (w : World) (HKL : Hid (∀ w, Calls Try.prog 80 #[.int .i64 lv] w fun e w' => e = .returned (.bool true) ∧ w' = w)) (HTM : Hid (∀ w, Calls Try.prog 81 #[.int .i64 lv] w fun e w' => e = .returned (.int .u64 tm) ∧ w' = w)) (h : tg ≤ tm) (h2 : asd ≤ 65535) (HB : Hid (∀ w, Calls Try.prog 82 #[.int .u64 pt, .int .u64 32] w fun e w' => e = .returned (.bool g5) ∧ w' = w)) (hne : (gl == g5) = false) :
    Calls Try.prog 70 #[.agg #[.bool true, .int .i64 lv, .int .u64 tg, .int .u64 asd, .bool gl, .int .u64 pt]] w fun e w' => e = .returned (.tuple #[slotV ent0, .bool false]) ∧ Below w.heap.size w w' := by
  have hne2 : (gl != g5) = true := by simp [bne, hne]
  have H1 : Hid (∀ k, (((w.alloc (Obj.cells #[.bool true, .int .i64 lv, .int .u64 tg, .int .u64 asd, .bool gl, .int .u64 pt] 91)).alloc (Obj.cells #[.int .i64 0, .int .u64 0, .int .u64 0, .bool false, .bool false, .int .u64 0] 120)).drewN k).heap[w.heap.size]? = some (.cells #[.bool true, .int .i64 lv, .int .u64 tg, .int .u64 asd, .bool gl, .int .u64 pt] 91 (0, 0))) := by
    intro k
    show ((w.alloc (Obj.cells #[.bool true, .int .i64 lv, .int .u64 tg, .int .u64 asd, .bool gl, .int .u64 pt] 91)).alloc (Obj.cells #[.int .i64 0, .int .u64 0, .int .u64 0, .bool false, .bool false, .int .u64 0] 120)).heap[w.heap.size]? = _
    rw [heap_alloc_old _ _ (by simp)]
    exact heap_alloc_new w _
  have H2 : Hid (∀ k, (((w.alloc (Obj.cells #[.bool true, .int .i64 lv, .int .u64 tg, .int .u64 asd, .bool gl, .int .u64 pt] 91)).alloc (Obj.cells #[.int .i64 0, .int .u64 0, .int .u64 0, .bool false, .bool false, .int .u64 0] 120)).drewN k).heap[w.heap.size + 1]? = some (.cells #[.int .i64 0, .int .u64 0, .int .u64 0, .bool false, .bool false, .int .u64 0] 120 (0, 0))) := by
    intro k
    have := heap_alloc_new (w.alloc (Obj.cells #[.bool true, .int .i64 lv, .int .u64 tg, .int .u64 asd, .bool gl, .int .u64 pt] 91)) (Obj.cells #[.int .i64 0, .int .u64 0, .int .u64 0, .bool false, .bool false, .int .u64 0] 120)
    simp only [World.size_alloc] at this
    exact this
  have n1 := ((Below.refl w.heap.size w).alloc (Nat.le_refl _) (Obj.cells #[.bool true, .int .i64 lv, .int .u64 tg, .int .u64 asd, .bool gl, .int .u64 pt] 91)).alloc (by simp) (Obj.cells #[.int .i64 0, .int .u64 0, .int .u64 0, .bool false, .bool false, .int .u64 0] 120)
  have HW : Hid (∀ k, Below w.heap.size w (((w.alloc (Obj.cells #[.bool true, .int .i64 lv, .int .u64 tg, .int .u64 asd, .bool gl, .int .u64 pt] 91)).alloc (Obj.cells #[.int .i64 0, .int .u64 0, .int .u64 0, .bool false, .bool false, .int .u64 0] 120)).drewN k)) := fun k => below_drewN n1 k
  have HS : Hid (∀ k, (((w.alloc (Obj.cells #[.bool true, .int .i64 lv, .int .u64 tg, .int .u64 asd, .bool gl, .int .u64 pt] 91)).alloc (Obj.cells #[.int .i64 0, .int .u64 0, .int .u64 0, .bool false, .bool false, .int .u64 0] 120)).drewN k).heap.size = w.heap.size + 2) := fun k => by show ((w.alloc (Obj.cells #[.bool true, .int .i64 lv, .int .u64 tg, .int .u64 asd, .bool gl, .int .u64 pt] 91)).alloc (Obj.cells #[.int .i64 0, .int .u64 0, .int .u64 0, .bool false, .bool false, .int .u64 0] 120)).heap.size = _; simp
  have hm := method_goodAtL pt
  clear n1
  go_enter Try.func70, Try.ntmps70
  go_wp2_with fail
  go_quiet (first
      | (go_at_call 80; exact Calls.quiet_of_same (HKL.out _))
      | (go_at_call 81; exact Calls.quiet_of_same (HTM.out _)))
  have K1 := H1.out nq
  have K2 := H2.out nq
  have B1 := HW.out nq
  have S1 := HS.out nq
  generalize ((w.alloc (Obj.cells #[.bool true, .int .i64 lv, .int .u64 tg, .int .u64 asd, .bool gl, .int .u64 pt] 91)).alloc (Obj.cells #[.int .i64 0, .int .u64 0, .int .u64 0, .bool false, .bool false, .int .u64 0] 120)).drewN nq = v2 at K1 K2 B1 S1 ⊢
  have P1 : Hid _ := K1
  have P2 : Hid _ := K2
  clear H1 H2 HW HS K1 K2
  obtain ⟨⟨x0, x1, x2, x3, x4, x5⟩, _⟩ := six_at P1.out
  obtain ⟨⟨y0, y1, y2, y3, y4, y5⟩, z0, z1, z2, z3, z4, z5⟩ := six_at P2.out
  have ne1 : v2.heap.size ≠ w.heap.size := by omega
  have ne2 : v2.heap.size ≠ w.heap.size + 1 := by omega
  have ne3 : w.heap.size < v2.heap.size := by omega
  have ne4 : w.heap.size + 1 < v2.heap.size := by omega
  clear HKL HTM
  go_wp2_with fail
  go_quiet ((go_at_call 82; exact Calls.quiet_of_same (HB.out _)))
  go_wp2_with fail
  exact bodyPost_ret (v := .tuple #[slotV ent0, .bool false]) (by simp [results, Try.results70, go_sem, slotV, ent0, y0, y1, y2, y3, y4, y5]) rfl ⟨rfl, belS6 (below_drewN B1 _) (by omega) _ _ _ _ _ _⟩

theorem slot_kL (lv tg asd pt tm : Int) (gl : Bool) (w : World) (HKL : Hid (∀ w, Calls Try.prog 80 #[.int .i64 lv] w fun e w' => e = .returned (.bool true) ∧ w' = w)) (HTM : Hid (∀ w, Calls Try.prog 81 #[.int .i64 lv] w fun e w' => e = .returned (.int .u64 tm) ∧ w' = w)) (h : tg ≤ tm) (h2 : asd ≤ 65535) (HB : Hid (∀ w, Calls Try.prog 82 #[.int .u64 pt, .int .u64 32] w fun e w' => e = .returned (.bool gl) ∧ w' = w)) (HGD : Hid (∀ w, Calls Try.prog 102 #[.int .u64 pt, .int .i64 lv] w fun e w' => e = .returned (.bool false) ∧ w' = w)) :
    Calls Try.prog 70 #[.agg #[.bool true, .int .i64 lv, .int .u64 tg, .int .u64 asd, .bool gl, .int .u64 pt]] w fun e w' => e = .returned (.tuple #[slotV ent0, .bool false]) ∧ Below w.heap.size w w' := by
  have hne2 : (gl != gl) = false := by simp
  have H1 : Hid (∀ k, (((w.alloc (Obj.cells #[.bool true, .int .i64 lv, .int .u64 tg, .int .u64 asd, .bool gl, .int .u64 pt] 91)).alloc (Obj.cells #[.int .i64 0, .int .u64 0, .int .u64 0, .bool false, .bool false, .int .u64 0] 120)).drewN k).heap[w.heap.size]? = some (.cells #[.bool true, .int .i64 lv, .int .u64 tg, .int .u64 asd, .bool gl, .int .u64 pt] 91 (0, 0))) := by
    intro k
    show ((w.alloc (Obj.cells #[.bool true, .int .i64 lv, .int .u64 tg, .int .u64 asd, .bool gl, .int .u64 pt] 91)).alloc (Obj.cells #[.int .i64 0, .int .u64 0, .int .u64 0, .bool false, .bool false, .int .u64 0] 120)).heap[w.heap.size]? = _
    rw [heap_alloc_old _ _ (by simp)]
    exact heap_alloc_new w _
  have H2 : Hid (∀ k, (((w.alloc (Obj.cells #[.bool true, .int .i64 lv, .int .u64 tg, .int .u64 asd, .bool gl, .int .u64 pt] 91)).alloc (Obj.cells #[.int .i64 0, .int .u64 0, .int .u64 0, .bool false, .bool false, .int .u64 0] 120)).drewN k).heap[w.heap.size + 1]? = some (.cells #[.int .i64 0, .int .u64 0, .int .u64 0, .bool false, .bool false, .int .u64 0] 120 (0, 0))) := by
    intro k
    have := heap_alloc_new (w.alloc (Obj.cells #[.bool true, .int .i64 lv, .int .u64 tg, .int .u64 asd, .bool gl, .int .u64 pt] 91)) (Obj.cells #[.int .i64 0, .int .u64 0, .int .u64 0, .bool false, .bool false, .int .u64 0] 120)
    simp only [World.size_alloc] at this
    exact this
  have n1 := ((Below.refl w.heap.size w).alloc (Nat.le_refl _) (Obj.cells #[.bool true, .int .i64 lv, .int .u64 tg, .int .u64 asd, .bool gl, .int .u64 pt] 91)).alloc (by simp) (Obj.cells #[.int .i64 0, .int .u64 0, .int .u64 0, .bool false, .bool false, .int .u64 0] 120)
  have HW : Hid (∀ k, Below w.heap.size w (((w.alloc (Obj.cells #[.bool true, .int .i64 lv, .int .u64 tg, .int .u64 asd, .bool gl, .int .u64 pt] 91)).alloc (Obj.cells #[.int .i64 0, .int .u64 0, .int .u64 0, .bool false, .bool false, .int .u64 0] 120)).drewN k)) := fun k => below_drewN n1 k
  have HS : Hid (∀ k, (((w.alloc (Obj.cells #[.bool true, .int .i64 lv, .int .u64 tg, .int .u64 asd, .bool gl, .int .u64 pt] 91)).alloc (Obj.cells #[.int .i64 0, .int .u64 0, .int .u64 0, .bool false, .bool false, .int .u64 0] 120)).drewN k).heap.size = w.heap.size + 2) := fun k => by show ((w.alloc (Obj.cells #[.bool true, .int .i64 lv, .int .u64 tg, .int .u64 asd, .bool gl, .int .u64 pt] 91)).alloc (Obj.cells #[.int .i64 0, .int .u64 0, .int .u64 0, .bool false, .bool false, .int .u64 0] 120)).heap.size = _; simp
  have hm := method_goodAtL pt
  clear n1
  go_enter Try.func70, Try.ntmps70
  go_wp2_with fail
  go_quiet (first
      | (go_at_call 80; exact Calls.quiet_of_same (HKL.out _))
      | (go_at_call 81; exact Calls.quiet_of_same (HTM.out _)))
  have K1 := H1.out nq
  have K2 := H2.out nq
  have B1 := HW.out nq
  have S1 := HS.out nq
  generalize ((w.alloc (Obj.cells #[.bool true, .int .i64 lv, .int .u64 tg, .int .u64 asd, .bool gl, .int .u64 pt] 91)).alloc (Obj.cells #[.int .i64 0, .int .u64 0, .int .u64 0, .bool false, .bool false, .int .u64 0] 120)).drewN nq = v2 at K1 K2 B1 S1 ⊢
  have P1 : Hid _ := K1
  have P2 : Hid _ := K2
  clear H1 H2 HW HS K1 K2
  obtain ⟨⟨x0, x1, x2, x3, x4, x5⟩, _⟩ := six_at P1.out
  obtain ⟨⟨y0, y1, y2, y3, y4, y5⟩, z0, z1, z2, z3, z4, z5⟩ := six_at P2.out
  have ne1 : v2.heap.size ≠ w.heap.size := by omega
  have ne2 : v2.heap.size ≠ w.heap.size + 1 := by omega
  have ne3 : w.heap.size < v2.heap.size := by omega
  have ne4 : w.heap.size + 1 < v2.heap.size := by omega
  clear HKL HTM
  go_wp2_with fail
  go_quiet (first
      | (go_at_call 82; exact Calls.quiet_of_same (HB.out _))
      | (go_at_call 102; exact Calls.quiet_of_same (HGD.out _)))
  go_wp2_with fail
  exact bodyPost_ret (v := .tuple #[slotV ent0, .bool false]) (by simp [results, Try.results70, go_sem, slotV, ent0, y0, y1, y2, y3, y4, y5]) rfl ⟨rfl, belS6 (below_drewN B1 _) (by omega) _ _ _ _ _ _⟩

theorem slot_okL (lv tg asd pt tm : Int) (gl : Bool) (w : World) (HKL : Hid (∀ w, Calls Try.prog 80 #[.int .i64 lv] w fun e w' => e = .returned (.bool true) ∧ w' = w)) (HTM : Hid (∀ w, Calls Try.prog 81 #[.int .i64 lv] w fun e w' => e = .returned (.int .u64 tm) ∧ w' = w)) (h : tg ≤ tm) (h2 : asd ≤ 65535) (HB : Hid (∀ w, Calls Try.prog 82 #[.int .u64 pt, .int .u64 32] w fun e w' => e = .returned (.bool gl) ∧ w' = w)) (HGD : Hid (∀ w, Calls Try.prog 102 #[.int .u64 pt, .int .i64 lv] w fun e w' => e = .returned (.bool true) ∧ w' = w)) :
    Calls Try.prog 70 #[.agg #[.bool true, .int .i64 lv, .int .u64 tg, .int .u64 asd, .bool gl, .int .u64 pt]] w fun e w' => e = .returned (.tuple #[slotV ⟨true, lv, tg, asd, gl, pt⟩, .bool true]) ∧ Below w.heap.size w w' := by
  have hne2 : (gl != gl) = false := by simp
  have H1 : Hid (∀ k, (((w.alloc (Obj.cells #[.bool true, .int .i64 lv, .int .u64 tg, .int .u64 asd, .bool gl, .int .u64 pt] 91)).alloc (Obj.cells #[.int .i64 0, .int .u64 0, .int .u64 0, .bool false, .bool false, .int .u64 0] 120)).drewN k).heap[w.heap.size]? = some (.cells #[.bool true, .int .i64 lv, .int .u64 tg, .int .u64 asd, .bool gl, .int .u64 pt] 91 (0, 0))) := by
    intro k
    show ((w.alloc (Obj.cells #[.bool true, .int .i64 lv, .int .u64 tg, .int .u64 asd, .bool gl, .int .u64 pt] 91)).alloc (Obj.cells #[.int .i64 0, .int .u64 0, .int .u64 0, .bool false, .bool false, .int .u64 0] 120)).heap[w.heap.size]? = _
    rw [heap_alloc_old _ _ (by simp)]
    exact heap_alloc_new w _
  have H2 : Hid (∀ k, (((w.alloc (Obj.cells #[.bool true, .int .i64 lv, .int .u64 tg, .int .u64 asd, .bool gl, .int .u64 pt] 91)).alloc (Obj.cells #[.int .i64 0, .int .u64 0, .int .u64 0, .bool false, .bool false, .int .u64 0] 120)).drewN k).heap[w.heap.size + 1]? = some (.cells #[.int .i64 0, .int .u64 0, .int .u64 0, .bool false, .bool false, .int .u64 0] 120 (0, 0))) := by
    intro k
    have := heap_alloc_new (w.alloc (Obj.cells #[.bool true, .int .i64 lv, .int .u64 tg, .int .u64 asd, .bool gl, .int .u64 pt] 91)) (Obj.cells #[.int .i64 0, .int .u64 0, .int .u64 0, .bool false, .bool false, .int .u64 0] 120)
    simp only [World.size_alloc] at this
    exact this
  have n1 := ((Below.refl w.heap.size w).alloc (Nat.le_refl _) (Obj.cells #[.bool true, .int .i64 lv, .int .u64 tg, .int .u64 asd, .bool gl, .int .u64 pt] 91)).alloc (by simp) (Obj.cells #[.int .i64 0, .int .u64 0, .int .u64 0, .bool false, .bool false, .int .u64 0] 120)
  have HW : Hid (∀ k, Below w.heap.size w (((w.alloc (Obj.cells #[.bool true, .int .i64 lv, .int .u64 tg, .int .u64 asd, .bool gl, .int .u64 pt] 91)).alloc (Obj.cells #[.int .i64 0, .int .u64 0, .int .u64 0, .bool false, .bool false, .int .u64 0] 120)).drewN k)) := fun k => below_drewN n1 k
  have HS : Hid (∀ k, (((w.alloc (Obj.cells #[.bool true, .int .i64 lv, .int .u64 tg, .int .u64 asd, .bool gl, .int .u64 pt] 91)).alloc (Obj.cells #[.int .i64 0, .int .u64 0, .int .u64 0, .bool false, .bool false, .int .u64 0] 120)).drewN k).heap.size = w.heap.size + 2) := fun k => by show ((w.alloc (Obj.cells #[.bool true, .int .i64 lv, .int .u64 tg, .int .u64 asd, .bool gl, .int .u64 pt] 91)).alloc (Obj.cells #[.int .i64 0, .int .u64 0, .int .u64 0, .bool false, .bool false, .int .u64 0] 120)).heap.size = _; simp
  have hm := method_goodAtL pt
  clear n1
  go_enter Try.func70, Try.ntmps70
  go_wp2_with fail
  go_quiet (first
      | (go_at_call 80; exact Calls.quiet_of_same (HKL.out _))
      | (go_at_call 81; exact Calls.quiet_of_same (HTM.out _)))
  have K1 := H1.out nq
  have K2 := H2.out nq
  have B1 := HW.out nq
  have S1 := HS.out nq
  generalize ((w.alloc (Obj.cells #[.bool true, .int .i64 lv, .int .u64 tg, .int .u64 asd, .bool gl, .int .u64 pt] 91)).alloc (Obj.cells #[.int .i64 0, .int .u64 0, .int .u64 0, .bool false, .bool false, .int .u64 0] 120)).drewN nq = v2 at K1 K2 B1 S1 ⊢
  have P1 : Hid _ := K1
  have P2 : Hid _ := K2
  clear H1 H2 HW HS K1 K2
  obtain ⟨⟨x0, x1, x2, x3, x4, x5⟩, _⟩ := six_at P1.out
  obtain ⟨⟨y0, y1, y2, y3, y4, y5⟩, z0, z1, z2, z3, z4, z5⟩ := six_at P2.out
  have ne1 : v2.heap.size ≠ w.heap.size := by omega
  have ne2 : v2.heap.size ≠ w.heap.size + 1 := by omega
  have ne3 : w.heap.size < v2.heap.size := by omega
  have ne4 : w.heap.size + 1 < v2.heap.size := by omega
  clear HKL HTM
  go_wp2_with fail
  go_quiet (first
      | (go_at_call 82; exact Calls.quiet_of_same (HB.out _))
      | (go_at_call 102; exact Calls.quiet_of_same (HGD.out _)))
  go_wp2_with fail
  exact bodyPost_ret (v := .tuple #[slotV ⟨true, lv, tg, asd, gl, pt⟩, .bool true]) (by simp [results, Try.results70, go_sem, slotV, y0, y1, y2, y3, y4, y5, ne4]) rfl ⟨rfl, (belS6 (below_drewN B1 nq) (by omega) _ _ _ _ _ _).alloc (by simp; omega) _⟩

theorem slotOfL_any (x : EntM) (w : World) (hx : entOk x) :
    Calls Try.prog 70 #[entV x] w fun e w' => e = .returned (.tuple #[slotV (if goodEntM x false = true then x else ent0), .bool (goodEntM x false)]) ∧ Below w.heap.size w w' := by
  obtain ⟨v, lv, tg, asd, gl, pt⟩ := x
  obtain ⟨⟨a1, a2⟩, ⟨b1, b2⟩, ⟨c1, c2⟩, d1, d2⟩ := hx
  simp only at a1 a2 b1 b2 c1 c2 d1 d2
  unfold entV
  simp only
  cases v
  · rw [show goodEntM ⟨false, lv, tg, asd, gl, pt⟩ false = false by simp [goodEntM]]
    exact slot_vL lv tg asd pt 0 gl w
  by_cases h0 : ¬ (0 ≤ lv ∧ lv ≤ 2)
  · rw [show goodEntM ⟨true, lv, tg, asd, gl, pt⟩ false = false by simp [goodEntM]; omega]
    exact slot_lL lv tg asd pt 0 gl w (fun w => by
      have := knownLevel_at lv w
      rw [show decide (0 ≤ lv ∧ lv ≤ 2) = false by simpa using h0] at this
      exact this)
  have h0' : 0 ≤ lv ∧ lv ≤ 2 := Decidable.not_not.1 h0
  have HKL : Hid (∀ w, Calls Try.prog 80 #[.int .i64 lv] w fun e w' => e = .returned (.bool true) ∧ w' = w) := fun w => by
    have := knownLevel_at lv w
    rw [show decide (0 ≤ lv ∧ lv ≤ 2) = true by simpa using h0'] at this
    exact this
  obtain ⟨tm, htm⟩ : ∃ tm, pow9 lv - 1 = tm := ⟨_, rfl⟩
  have HTM : Hid (∀ w, Calls Try.prog 81 #[.int .i64 lv] w fun e w' => e = .returned (.int .u64 tm) ∧ w' = w) := fun w => by
    have := tagMask_at lv w (by omega)
    rw [htm] at this
    exact this
  by_cases h1 : ¬ (tg ≤ tm)
  · rw [show goodEntM ⟨true, lv, tg, asd, gl, pt⟩ false = false by simp [goodEntM]; omega]
    exact slot_tL lv tg asd pt tm gl w HKL HTM h1
  have h1' : tg ≤ tm := Decidable.not_not.1 h1
  by_cases h2 : ¬ (asd ≤ 65535)
  · rw [show goodEntM ⟨true, lv, tg, asd, gl, pt⟩ false = false by simp [goodEntM]; omega]
    exact slot_aL lv tg asd pt tm gl w HKL HTM h1' h2
  have h2' : asd ≤ 65535 := Decidable.not_not.1 h2
  have hgood : goodEntM ⟨true, lv, tg, asd, gl, pt⟩ false = ((gl == bitB pt 32) && (kindM pt lv == 2)) := by
    simp only [goodEntM, wantM]
    simp [h0'.1, h0'.2, h2', show tg < pow9 lv by omega]
  rw [hgood]
  obtain ⟨g5, hg5⟩ : ∃ g5, bitB pt 32 = g5 := ⟨_, rfl⟩
  obtain ⟨gd, hgd⟩ : ∃ gd, (kindM pt lv == 2) = gd := ⟨_, rfl⟩
  have HB : Hid (∀ w, Calls Try.prog 82 #[.int .u64 pt, .int .u64 32] w fun e w' => e = .returned (.bool g5) ∧ w' = w) := fun w => by
    have := hasAny_at pt 32 w
    rw [anyB_bit 5 pt 32 rfl (by omega) d1 d2, hg5] at this
    exact this
  have HGD : Hid (∀ w, Calls Try.prog 102 #[.int .u64 pt, .int .i64 lv] w fun e w' => e = .returned (.bool gd) ∧ w' = w) := fun w => by
    have := goodAtL_at pt lv w d1 d2
    rw [hgd] at this
    exact this
  rw [hg5, hgd]
  cases hq : (gl == g5)
  · exact slot_gL lv tg asd pt tm gl g5 w HKL HTM h1' h2' HB hq
  · have hq' : gl = g5 := by simpa using hq
    subst hq'
    cases gd
    · exact slot_kL lv tg asd pt tm gl w HKL HTM h1' h2' HB HGD
    · exact slot_okL lv tg asd pt tm gl w HKL HTM h1' h2' HB HGD

end Go.Proofs.Ythekickjjaleaac

/- The program's setOf, for one kind of cache. Written by mk4.py. -/
namespace Go.Proofs.Ythekickjjaleaac
open Go.RowKit
set_option linter.unusedVariables false

theorem setOfL_at (b o : Nat) (sets tag : Int) (w : World) (hs : sets = 1 ∨ sets = 2 ∨ sets = 4 ∨ sets = 8) (c0 : w.cell? ⟨b, o, none⟩ = some (.int .i64 sets)) (ht : 0 ≤ tag) (ht1 : tag ≤ 18446744073709551615) :
    Calls Try.prog 71 #[.pointer (some ⟨b, o, none⟩), .int .u64 tag] w fun e w' => e = .returned (.int .i64 (tag % sets)) ∧ w' = w := by
  rcases hs with rfl | rfl | rfl | rfl
  all_goals
    go_enter Try.func71, Try.ntmps71
    go_wp2_with fail
    go_ret
    exact ⟨ret_i64 (by omega), rfl⟩

end Go.Proofs.Ythekickjjaleaac

/- The program's knownShape. -/
namespace Go.Proofs.Ythekickjjaleaac
open Go.RowKit
set_option linter.unusedVariables false

set_option maxHeartbeats 1600000 in
theorem knownShape_any (sets ways : Int) (a : Option Addr) (n cap : Nat) (w : World) (hn : n ≤ 1048576) (hs : -9223372036854775808 ≤ sets ∧ sets ≤ 9223372036854775807) (hw : -9223372036854775808 ≤ ways ∧ ways ≤ 9223372036854775807) :
    Calls Try.prog 69 #[.agg #[.int .i64 sets, .int .i64 ways, .slice a n cap]] w fun e w' => e = .returned (.bool (decide ((sets = 1 ∨ sets = 2 ∨ sets = 4 ∨ sets = 8) ∧ 1 ≤ ways ∧ ways ≤ 4 ∧ (n : Int) = sets * ways))) ∧ Below w.heap.size w w' := by
  have n1 := (Below.refl w.heap.size w).alloc (Nat.le_refl _) (Obj.cells #[.int .i64 sets, .int .i64 ways, .slice a n cap] 27)
  by_cases h1 : sets = 1 ∨ sets = 2 ∨ sets = 4 ∨ sets = 8
  · by_cases h2 : ¬ (1 ≤ ways)
    · rcases h1 with rfl | rfl | rfl | rfl
      all_goals
        go_enter Try.func69, Try.ntmps69
        go_wp2_with fail
        go_ret
        exact ⟨ret_bool (by simp; omega), n1⟩
    · have h2' := Decidable.not_not.1 h2
      clear h2
      by_cases h3 : ¬ (ways ≤ 4)
      · rcases h1 with rfl | rfl | rfl | rfl
        all_goals
          go_enter Try.func69, Try.ntmps69
          go_wp2_with fail
          go_ret
          exact ⟨ret_bool (by simp; omega), n1⟩
      · have h3' := Decidable.not_not.1 h3
        clear h3
        rcases h1 with rfl | rfl | rfl | rfl
        all_goals
          go_enter Try.func69, Try.ntmps69
          go_wp2_with fail
          go_ret
          exact ⟨ret_bool (by simp [h2', h3']; rfl), n1⟩
  · have h1' := h1
    simp only [not_or] at h1'
    obtain ⟨s1, s2, s4, s8⟩ := h1'
    go_enter Try.func69, Try.ntmps69
    go_wp2_with fail
    go_ret
    exact ⟨ret_bool (by simp [h1]), n1⟩

end Go.Proofs.Ythekickjjaleaac

/- An Entry held against the zero Entry. -/
namespace Go.Proofs.Ythekickjjaleaac
open Go.RowKit
set_option linter.unusedVariables false

def zeroB (e : EntM) : Bool := e.valid == false && e.level == 0 && e.tag == 0 && e.asid == 0 && e.glob == false && e.pte == 0

theorem ent_eq (v : Bool) (lv tg asd : Int) (gl : Bool) (pt : Int) (w : World) :
    (binOp .eql 91 (.agg #[.bool v, .int .i64 lv, .int .u64 tg, .int .u64 asd, .bool gl, .int .u64 pt]) (.agg #[.bool false, .int .i64 0, .int .u64 0, .int .u64 0, .bool false, .int .u64 0])).run Try.prog w = .ok (.bool (zeroB ⟨v, lv, tg, asd, gl, pt⟩)) w := by
  unfold zeroB
  cases v
  case true => (go_simp; try simp)
  by_cases h1 : lv = 0
  case neg => (have q1 : (lv == 0) = false := by simpa using h1); (go_simp; try simp [q1])
  subst h1
  by_cases h2 : tg = 0
  case neg => (have q1 : (tg == 0) = false := by simpa using h2); (go_simp; try simp [q1])
  subst h2
  by_cases h3 : asd = 0
  case neg => (have q1 : (asd == 0) = false := by simpa using h3); (go_simp; try simp [q1])
  subst h3
  cases gl
  case true => (go_simp; try simp)
  by_cases h4 : pt = 0
  case neg => (have q1 : (pt == 0) = false := by simpa using h4); (go_simp; try simp [q1])
  subst h4
  go_simp
  try simp

end Go.Proofs.Ythekickjjaleaac
