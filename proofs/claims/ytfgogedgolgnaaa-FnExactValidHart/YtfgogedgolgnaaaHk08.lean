import Derived.Test.YtfgogedgolgnaaaHk07
import Derived.BigRegion
import Derived.Deep.Cut
namespace Go.Proofs.Ytfgogedgolgnaaa
open Go.RowKit
set_option linter.unusedVariables false
set_option maxHeartbeats 6400000
set_option maxRecDepth 20000
theorem bL (x:Int) (w:World):(method 269 81 (.int .u64 x) "loop.example/s0051/impl.goodAt").run Try.prog w=.ok (121,.int .u64 x) w:=by kernel_rfl
theorem ig (lv tg asd pt tm:Int) (gl:Bool) (w:World):
 Calls Try.prog 69 #[.agg #[.bool false,.int .i64 lv,.int .u64 tg,.int .u64 asd,.bool gl,.int .u64 pt]] w fun e w'=>e=.returned (.tuple #[aE aP,.bool false])∧Below w.heap.size w w':=by
 have n1:=((Below.refl w.heap.size w).alloc (Nat.le_refl _) (Obj.cells #[.bool false,.int .i64 lv,.int .u64 tg,.int .u64 asd,.bool gl,.int .u64 pt] 42)).alloc (by simp) (Obj.cells #[.int .i64 0,.int .u64 0,.int .u64 0,.bool false,.bool false,.int .u64 0] 123);go_enter Try.func69,Try.ntmps69;go_wp2_with fail;go_quiet (fail);go_wp2_with fail;exact bodyPost_ret (v:=.tuple #[aE aP,.bool false]) (by simp [results,Try.results69,go_sem,aE,aP]) rfl ⟨rfl,bO (below_drewN n1 nq) (by omega) _ _ _ _ _ _⟩
theorem ii (lv tg asd pt tm:Int) (gl:Bool) (w:World) (HKL:Hid (∀w,Calls Try.prog 91 #[.int .i64 lv] w fun e w'=>e=.returned (.bool false)∧w'=w)):
 Calls Try.prog 69 #[.agg #[.bool true,.int .i64 lv,.int .u64 tg,.int .u64 asd,.bool gl,.int .u64 pt]] w fun e w'=>e=.returned (.tuple #[aE aP,.bool false])∧Below w.heap.size w w':=by
 have n1:=((Below.refl w.heap.size w).alloc (Nat.le_refl _) (Obj.cells #[.bool true,.int .i64 lv,.int .u64 tg,.int .u64 asd,.bool gl,.int .u64 pt] 42)).alloc (by simp) (Obj.cells #[.int .i64 0,.int .u64 0,.int .u64 0,.bool false,.bool false,.int .u64 0] 123);go_enter Try.func69,Try.ntmps69;go_wp2_with fail;go_quiet ((go_at_call 91;exact Calls.quiet_of_same (HKL.out _)));go_wp2_with fail;exact bodyPost_ret (v:=.tuple #[aE aP,.bool false]) (by simp [results,Try.results69,go_sem,aE,aP]) rfl ⟨rfl,bO (below_drewN n1 nq) (by omega) _ _ _ _ _ _⟩
theorem ij (lv tg asd pt tm:Int) (gl:Bool) (w:World) (HKL:Hid (∀w,Calls Try.prog 91 #[.int .i64 lv] w fun e w'=>e=.returned (.bool true)∧w'=w)) (HTM:Hid (∀w,Calls Try.prog 92 #[.int .i64 lv] w fun e w'=>e=.returned (.int .u64 tm)∧w'=w)) (h:¬(tg<=tm)):
 Calls Try.prog 69 #[.agg #[.bool true,.int .i64 lv,.int .u64 tg,.int .u64 asd,.bool gl,.int .u64 pt]] w fun e w'=>e=.returned (.tuple #[aE aP,.bool false])∧Below w.heap.size w w':=by
 have n1:=((Below.refl w.heap.size w).alloc (Nat.le_refl _) (Obj.cells #[.bool true,.int .i64 lv,.int .u64 tg,.int .u64 asd,.bool gl,.int .u64 pt] 42)).alloc (by simp) (Obj.cells #[.int .i64 0,.int .u64 0,.int .u64 0,.bool false,.bool false,.int .u64 0] 123);go_enter Try.func69,Try.ntmps69;go_wp2_with fail;go_quiet (first
  | (go_at_call 91;exact Calls.quiet_of_same (HKL.out _))
  | (go_at_call 92;exact Calls.quiet_of_same (HTM.out _)))
 go_wp2_with fail;exact bodyPost_ret (v:=.tuple #[aE aP,.bool false]) (by simp [results,Try.results69,go_sem,aE,aP]) rfl ⟨rfl,bO (below_drewN n1 nq) (by omega) _ _ _ _ _ _⟩
theorem ik (lv tg asd pt tm:Int) (gl:Bool) (w:World) (HKL:Hid (∀w,Calls Try.prog 91 #[.int .i64 lv] w fun e w'=>e=.returned (.bool true)∧w'=w)) (HTM:Hid (∀w,Calls Try.prog 92 #[.int .i64 lv] w fun e w'=>e=.returned (.int .u64 tm)∧w'=w)) (h:tg<=tm) (h2:¬(asd<=65535)):
 Calls Try.prog 69 #[.agg #[.bool true,.int .i64 lv,.int .u64 tg,.int .u64 asd,.bool gl,.int .u64 pt]] w fun e w'=>e=.returned (.tuple #[aE aP,.bool false])∧Below w.heap.size w w':=by
 have n1:=((Below.refl w.heap.size w).alloc (Nat.le_refl _) (Obj.cells #[.bool true,.int .i64 lv,.int .u64 tg,.int .u64 asd,.bool gl,.int .u64 pt] 42)).alloc (by simp) (Obj.cells #[.int .i64 0,.int .u64 0,.int .u64 0,.bool false,.bool false,.int .u64 0] 123);go_enter Try.func69,Try.ntmps69;go_wp2_with fail;go_quiet (first
  | (go_at_call 91;exact Calls.quiet_of_same (HKL.out _))
  | (go_at_call 92;exact Calls.quiet_of_same (HTM.out _)))
 go_wp2_with fail;exact bodyPost_ret (v:=.tuple #[aE aP,.bool false]) (by simp [results,Try.results69,go_sem,aE,aP]) rfl ⟨rfl,bO (below_drewN n1 nq) (by omega) _ _ _ _ _ _⟩
theorem il (lv tg asd pt tm:Int) (gl g5:Bool) (w:World) (HKL:Hid (∀w,Calls Try.prog 91 #[.int .i64 lv] w fun e w'=>e=.returned (.bool true)∧w'=w)) (HTM:Hid (∀w,Calls Try.prog 92 #[.int .i64 lv] w fun e w'=>e=.returned (.int .u64 tm)∧w'=w)) (h:tg<=tm) (h2:asd<=65535) (HB:Hid (∀w,Calls Try.prog 93 #[.int .u64 pt,.int .u64 32] w fun e w'=>e=.returned (.bool g5)∧w'=w)) (hne:(gl == g5)=false):
 Calls Try.prog 69 #[.agg #[.bool true,.int .i64 lv,.int .u64 tg,.int .u64 asd,.bool gl,.int .u64 pt]] w fun e w'=>e=.returned (.tuple #[aE aP,.bool false])∧Below w.heap.size w w':=by
 have hne2:(gl != g5)=true:=by simp [bne,hne]
 have H1:Hid (∀k,(((w.alloc (Obj.cells #[.bool true,.int .i64 lv,.int .u64 tg,.int .u64 asd,.bool gl,.int .u64 pt] 42)).alloc (Obj.cells #[.int .i64 0,.int .u64 0,.int .u64 0,.bool false,.bool false,.int .u64 0] 123)).drewN k).heap[w.heap.size]?=some (.cells #[.bool true,.int .i64 lv,.int .u64 tg,.int .u64 asd,.bool gl,.int .u64 pt] 42 (0,0))):=by
  intro k;show ((w.alloc (Obj.cells #[.bool true,.int .i64 lv,.int .u64 tg,.int .u64 asd,.bool gl,.int .u64 pt] 42)).alloc (Obj.cells #[.int .i64 0,.int .u64 0,.int .u64 0,.bool false,.bool false,.int .u64 0] 123)).heap[w.heap.size]?=_;rw [heap_alloc_old _ _ (by simp)];exact heap_alloc_new w _
 have H2:Hid (∀k,(((w.alloc (Obj.cells #[.bool true,.int .i64 lv,.int .u64 tg,.int .u64 asd,.bool gl,.int .u64 pt] 42)).alloc (Obj.cells #[.int .i64 0,.int .u64 0,.int .u64 0,.bool false,.bool false,.int .u64 0] 123)).drewN k).heap[w.heap.size+1]?=some (.cells #[.int .i64 0,.int .u64 0,.int .u64 0,.bool false,.bool false,.int .u64 0] 123 (0,0))):=by
  intro k;have:=heap_alloc_new (w.alloc (Obj.cells #[.bool true,.int .i64 lv,.int .u64 tg,.int .u64 asd,.bool gl,.int .u64 pt] 42)) (Obj.cells #[.int .i64 0,.int .u64 0,.int .u64 0,.bool false,.bool false,.int .u64 0] 123);simp only [World.size_alloc] at this;exact this
 have n1:=((Below.refl w.heap.size w).alloc (Nat.le_refl _) (Obj.cells #[.bool true,.int .i64 lv,.int .u64 tg,.int .u64 asd,.bool gl,.int .u64 pt] 42)).alloc (by simp) (Obj.cells #[.int .i64 0,.int .u64 0,.int .u64 0,.bool false,.bool false,.int .u64 0] 123);have HW:Hid (∀k,Below w.heap.size w (((w.alloc (Obj.cells #[.bool true,.int .i64 lv,.int .u64 tg,.int .u64 asd,.bool gl,.int .u64 pt] 42)).alloc (Obj.cells #[.int .i64 0,.int .u64 0,.int .u64 0,.bool false,.bool false,.int .u64 0] 123)).drewN k)):=fun k=>below_drewN n1 k;have HS:Hid (∀k,(((w.alloc (Obj.cells #[.bool true,.int .i64 lv,.int .u64 tg,.int .u64 asd,.bool gl,.int .u64 pt] 42)).alloc (Obj.cells #[.int .i64 0,.int .u64 0,.int .u64 0,.bool false,.bool false,.int .u64 0] 123)).drewN k).heap.size=w.heap.size+2):=fun k=>by show ((w.alloc (Obj.cells #[.bool true,.int .i64 lv,.int .u64 tg,.int .u64 asd,.bool gl,.int .u64 pt] 42)).alloc (Obj.cells #[.int .i64 0,.int .u64 0,.int .u64 0,.bool false,.bool false,.int .u64 0] 123)).heap.size=_;simp
 have hm:=bL pt;clear n1;go_enter Try.func69,Try.ntmps69;go_wp2_with fail;go_quiet (first
  | (go_at_call 91;exact Calls.quiet_of_same (HKL.out _))
  | (go_at_call 92;exact Calls.quiet_of_same (HTM.out _)))
 have K1:=H1.out nq;have K2:=H2.out nq;have B1:=HW.out nq;have S1:=HS.out nq;generalize ((w.alloc (Obj.cells #[.bool true,.int .i64 lv,.int .u64 tg,.int .u64 asd,.bool gl,.int .u64 pt] 42)).alloc (Obj.cells #[.int .i64 0,.int .u64 0,.int .u64 0,.bool false,.bool false,.int .u64 0] 123)).drewN nq=v2 at K1 K2 B1 S1 |-;have P1:Hid _:=K1;have P2:Hid _:=K2;clear H1 H2 HW HS K1 K2;obtain ⟨⟨x0,x1,x2,x3,x4,x5⟩,_⟩:=bi P1.out;obtain ⟨⟨y0,y1,y2,y3,y4,y5⟩,z0,z1,z2,z3,z4,z5⟩:=bi P2.out;have ne1:v2.heap.size≠w.heap.size:=by omega
 have ne2:v2.heap.size≠w.heap.size+1:=by omega
 have ne3:w.heap.size<v2.heap.size:=by omega
 have ne4:w.heap.size+1<v2.heap.size:=by omega
 clear HKL HTM;go_wp2_with fail;go_quiet ((go_at_call 93;exact Calls.quiet_of_same (HB.out _)));go_wp2_with fail;exact bodyPost_ret (v:=.tuple #[aE aP,.bool false]) (by simp [results,Try.results69,go_sem,aE,aP,y0,y1,y2,y3,y4,y5]) rfl ⟨rfl,bO (below_drewN B1 _) (by omega) _ _ _ _ _ _⟩
theorem im (lv tg asd pt tm:Int) (gl:Bool) (w:World) (HKL:Hid (∀w,Calls Try.prog 91 #[.int .i64 lv] w fun e w'=>e=.returned (.bool true)∧w'=w)) (HTM:Hid (∀w,Calls Try.prog 92 #[.int .i64 lv] w fun e w'=>e=.returned (.int .u64 tm)∧w'=w)) (h:tg<=tm) (h2:asd<=65535) (HB:Hid (∀w,Calls Try.prog 93 #[.int .u64 pt,.int .u64 32] w fun e w'=>e=.returned (.bool gl)∧w'=w)) (HGD:Hid (∀w,Calls Try.prog 121 #[.int .u64 pt,.int .i64 lv] w fun e w'=>e=.returned (.bool false)∧w'=w)):
 Calls Try.prog 69 #[.agg #[.bool true,.int .i64 lv,.int .u64 tg,.int .u64 asd,.bool gl,.int .u64 pt]] w fun e w'=>e=.returned (.tuple #[aE aP,.bool false])∧Below w.heap.size w w':=by
 have hne2:(gl != gl)=false:=by simp
 have H1:Hid (∀k,(((w.alloc (Obj.cells #[.bool true,.int .i64 lv,.int .u64 tg,.int .u64 asd,.bool gl,.int .u64 pt] 42)).alloc (Obj.cells #[.int .i64 0,.int .u64 0,.int .u64 0,.bool false,.bool false,.int .u64 0] 123)).drewN k).heap[w.heap.size]?=some (.cells #[.bool true,.int .i64 lv,.int .u64 tg,.int .u64 asd,.bool gl,.int .u64 pt] 42 (0,0))):=by
  intro k;show ((w.alloc (Obj.cells #[.bool true,.int .i64 lv,.int .u64 tg,.int .u64 asd,.bool gl,.int .u64 pt] 42)).alloc (Obj.cells #[.int .i64 0,.int .u64 0,.int .u64 0,.bool false,.bool false,.int .u64 0] 123)).heap[w.heap.size]?=_;rw [heap_alloc_old _ _ (by simp)];exact heap_alloc_new w _
 have H2:Hid (∀k,(((w.alloc (Obj.cells #[.bool true,.int .i64 lv,.int .u64 tg,.int .u64 asd,.bool gl,.int .u64 pt] 42)).alloc (Obj.cells #[.int .i64 0,.int .u64 0,.int .u64 0,.bool false,.bool false,.int .u64 0] 123)).drewN k).heap[w.heap.size+1]?=some (.cells #[.int .i64 0,.int .u64 0,.int .u64 0,.bool false,.bool false,.int .u64 0] 123 (0,0))):=by
  intro k;have:=heap_alloc_new (w.alloc (Obj.cells #[.bool true,.int .i64 lv,.int .u64 tg,.int .u64 asd,.bool gl,.int .u64 pt] 42)) (Obj.cells #[.int .i64 0,.int .u64 0,.int .u64 0,.bool false,.bool false,.int .u64 0] 123);simp only [World.size_alloc] at this;exact this
 have n1:=((Below.refl w.heap.size w).alloc (Nat.le_refl _) (Obj.cells #[.bool true,.int .i64 lv,.int .u64 tg,.int .u64 asd,.bool gl,.int .u64 pt] 42)).alloc (by simp) (Obj.cells #[.int .i64 0,.int .u64 0,.int .u64 0,.bool false,.bool false,.int .u64 0] 123);have HW:Hid (∀k,Below w.heap.size w (((w.alloc (Obj.cells #[.bool true,.int .i64 lv,.int .u64 tg,.int .u64 asd,.bool gl,.int .u64 pt] 42)).alloc (Obj.cells #[.int .i64 0,.int .u64 0,.int .u64 0,.bool false,.bool false,.int .u64 0] 123)).drewN k)):=fun k=>below_drewN n1 k;have HS:Hid (∀k,(((w.alloc (Obj.cells #[.bool true,.int .i64 lv,.int .u64 tg,.int .u64 asd,.bool gl,.int .u64 pt] 42)).alloc (Obj.cells #[.int .i64 0,.int .u64 0,.int .u64 0,.bool false,.bool false,.int .u64 0] 123)).drewN k).heap.size=w.heap.size+2):=fun k=>by show ((w.alloc (Obj.cells #[.bool true,.int .i64 lv,.int .u64 tg,.int .u64 asd,.bool gl,.int .u64 pt] 42)).alloc (Obj.cells #[.int .i64 0,.int .u64 0,.int .u64 0,.bool false,.bool false,.int .u64 0] 123)).heap.size=_;simp
 have hm:=bL pt;clear n1;go_enter Try.func69,Try.ntmps69;go_wp2_with fail;go_quiet (first
  | (go_at_call 91;exact Calls.quiet_of_same (HKL.out _))
  | (go_at_call 92;exact Calls.quiet_of_same (HTM.out _)))
 have K1:=H1.out nq;have K2:=H2.out nq;have B1:=HW.out nq;have S1:=HS.out nq;generalize ((w.alloc (Obj.cells #[.bool true,.int .i64 lv,.int .u64 tg,.int .u64 asd,.bool gl,.int .u64 pt] 42)).alloc (Obj.cells #[.int .i64 0,.int .u64 0,.int .u64 0,.bool false,.bool false,.int .u64 0] 123)).drewN nq=v2 at K1 K2 B1 S1 |-;have P1:Hid _:=K1;have P2:Hid _:=K2;clear H1 H2 HW HS K1 K2;obtain ⟨⟨x0,x1,x2,x3,x4,x5⟩,_⟩:=bi P1.out;obtain ⟨⟨y0,y1,y2,y3,y4,y5⟩,z0,z1,z2,z3,z4,z5⟩:=bi P2.out;have ne1:v2.heap.size≠w.heap.size:=by omega
 have ne2:v2.heap.size≠w.heap.size+1:=by omega
 have ne3:w.heap.size<v2.heap.size:=by omega
 have ne4:w.heap.size+1<v2.heap.size:=by omega
 clear HKL HTM;go_wp2_with fail;go_quiet (first
  | (go_at_call 93;exact Calls.quiet_of_same (HB.out _))
  | (go_at_call 121;exact Calls.quiet_of_same (HGD.out _)))
 go_wp2_with fail;exact bodyPost_ret (v:=.tuple #[aE aP,.bool false]) (by simp [results,Try.results69,go_sem,aE,aP,y0,y1,y2,y3,y4,y5]) rfl ⟨rfl,bO (below_drewN B1 _) (by omega) _ _ _ _ _ _⟩
theorem gZ (lv tg asd pt tm:Int) (gl:Bool) (w:World) (HKL:Hid (∀w,Calls Try.prog 91 #[.int .i64 lv] w fun e w'=>e=.returned (.bool true)∧w'=w)) (HTM:Hid (∀w,Calls Try.prog 92 #[.int .i64 lv] w fun e w'=>e=.returned (.int .u64 tm)∧w'=w)) (h:tg<=tm) (h2:asd<=65535) (HB:Hid (∀w,Calls Try.prog 93 #[.int .u64 pt,.int .u64 32] w fun e w'=>e=.returned (.bool gl)∧w'=w)) (HGD:Hid (∀w,Calls Try.prog 121 #[.int .u64 pt,.int .i64 lv] w fun e w'=>e=.returned (.bool true)∧w'=w)):
 Calls Try.prog 69 #[.agg #[.bool true,.int .i64 lv,.int .u64 tg,.int .u64 asd,.bool gl,.int .u64 pt]] w fun e w'=>e=.returned (.tuple #[aE ⟨true,lv,tg,asd,gl,pt⟩,.bool true])∧Below w.heap.size w w':=by
 have hne2:(gl != gl)=false:=by simp
 have H1:Hid (∀k,(((w.alloc (Obj.cells #[.bool true,.int .i64 lv,.int .u64 tg,.int .u64 asd,.bool gl,.int .u64 pt] 42)).alloc (Obj.cells #[.int .i64 0,.int .u64 0,.int .u64 0,.bool false,.bool false,.int .u64 0] 123)).drewN k).heap[w.heap.size]?=some (.cells #[.bool true,.int .i64 lv,.int .u64 tg,.int .u64 asd,.bool gl,.int .u64 pt] 42 (0,0))):=by
  intro k;show ((w.alloc (Obj.cells #[.bool true,.int .i64 lv,.int .u64 tg,.int .u64 asd,.bool gl,.int .u64 pt] 42)).alloc (Obj.cells #[.int .i64 0,.int .u64 0,.int .u64 0,.bool false,.bool false,.int .u64 0] 123)).heap[w.heap.size]?=_;rw [heap_alloc_old _ _ (by simp)];exact heap_alloc_new w _
 have H2:Hid (∀k,(((w.alloc (Obj.cells #[.bool true,.int .i64 lv,.int .u64 tg,.int .u64 asd,.bool gl,.int .u64 pt] 42)).alloc (Obj.cells #[.int .i64 0,.int .u64 0,.int .u64 0,.bool false,.bool false,.int .u64 0] 123)).drewN k).heap[w.heap.size+1]?=some (.cells #[.int .i64 0,.int .u64 0,.int .u64 0,.bool false,.bool false,.int .u64 0] 123 (0,0))):=by
  intro k;have:=heap_alloc_new (w.alloc (Obj.cells #[.bool true,.int .i64 lv,.int .u64 tg,.int .u64 asd,.bool gl,.int .u64 pt] 42)) (Obj.cells #[.int .i64 0,.int .u64 0,.int .u64 0,.bool false,.bool false,.int .u64 0] 123);simp only [World.size_alloc] at this;exact this
 have n1:=((Below.refl w.heap.size w).alloc (Nat.le_refl _) (Obj.cells #[.bool true,.int .i64 lv,.int .u64 tg,.int .u64 asd,.bool gl,.int .u64 pt] 42)).alloc (by simp) (Obj.cells #[.int .i64 0,.int .u64 0,.int .u64 0,.bool false,.bool false,.int .u64 0] 123);have HW:Hid (∀k,Below w.heap.size w (((w.alloc (Obj.cells #[.bool true,.int .i64 lv,.int .u64 tg,.int .u64 asd,.bool gl,.int .u64 pt] 42)).alloc (Obj.cells #[.int .i64 0,.int .u64 0,.int .u64 0,.bool false,.bool false,.int .u64 0] 123)).drewN k)):=fun k=>below_drewN n1 k;have HS:Hid (∀k,(((w.alloc (Obj.cells #[.bool true,.int .i64 lv,.int .u64 tg,.int .u64 asd,.bool gl,.int .u64 pt] 42)).alloc (Obj.cells #[.int .i64 0,.int .u64 0,.int .u64 0,.bool false,.bool false,.int .u64 0] 123)).drewN k).heap.size=w.heap.size+2):=fun k=>by show ((w.alloc (Obj.cells #[.bool true,.int .i64 lv,.int .u64 tg,.int .u64 asd,.bool gl,.int .u64 pt] 42)).alloc (Obj.cells #[.int .i64 0,.int .u64 0,.int .u64 0,.bool false,.bool false,.int .u64 0] 123)).heap.size=_;simp
 have hm:=bL pt;clear n1;go_enter Try.func69,Try.ntmps69;go_wp2_with fail;go_quiet (first
  | (go_at_call 91;exact Calls.quiet_of_same (HKL.out _))
  | (go_at_call 92;exact Calls.quiet_of_same (HTM.out _)))
 have K1:=H1.out nq;have K2:=H2.out nq;have B1:=HW.out nq;have S1:=HS.out nq;generalize ((w.alloc (Obj.cells #[.bool true,.int .i64 lv,.int .u64 tg,.int .u64 asd,.bool gl,.int .u64 pt] 42)).alloc (Obj.cells #[.int .i64 0,.int .u64 0,.int .u64 0,.bool false,.bool false,.int .u64 0] 123)).drewN nq=v2 at K1 K2 B1 S1 |-;have P1:Hid _:=K1;have P2:Hid _:=K2;clear H1 H2 HW HS K1 K2;obtain ⟨⟨x0,x1,x2,x3,x4,x5⟩,_⟩:=bi P1.out;obtain ⟨⟨y0,y1,y2,y3,y4,y5⟩,z0,z1,z2,z3,z4,z5⟩:=bi P2.out;have ne1:v2.heap.size≠w.heap.size:=by omega
 have ne2:v2.heap.size≠w.heap.size+1:=by omega
 have ne3:w.heap.size<v2.heap.size:=by omega
 have ne4:w.heap.size+1<v2.heap.size:=by omega
 clear HKL HTM;go_wp2_with fail;go_quiet (first
  | (go_at_call 93;exact Calls.quiet_of_same (HB.out _))
  | (go_at_call 121;exact Calls.quiet_of_same (HGD.out _)))
 go_wp2_with fail;exact bodyPost_ret (v:=.tuple #[aE ⟨true,lv,tg,asd,gl,pt⟩,.bool true]) (by simp [results,Try.results69,go_sem,aE,y0,y1,y2,y3,y4,y5,ne4]) rfl ⟨rfl,(bO (below_drewN B1 nq) (by omega) _ _ _ _ _ _).alloc (by simp;omega) _⟩
theorem fh (x:EntM) (w:World) (hx:aV x):
 Calls Try.prog 69 #[dR x] w fun e w'=>e=.returned (.tuple #[aE (if ah x false=true then x else aP),.bool (ah x false)])∧Below w.heap.size w w':=by
 obtain ⟨v,lv,tg,asd,gl,pt⟩:=x;obtain ⟨⟨a1,a2⟩,⟨b1,b2⟩,⟨c1,c2⟩,d1,d2⟩:=hx;simp only at a1 a2 b1 b2 c1 c2 d1 d2;unfold dR;simp only;cases v
 ·rw [show ah ⟨false,lv,tg,asd,gl,pt⟩ false=false by simp [ah]];exact ig lv tg asd pt 0 gl w
 by_cases h0:¬(0<=lv∧lv<=2)
 ·rw [show ah ⟨true,lv,tg,asd,gl,pt⟩ false=false by simp [ah];omega];exact ii lv tg asd pt 0 gl w (fun w=>by
   have:=aJ lv w;rw [show decide (0<=lv∧lv<=2)=false by simpa using h0] at this;exact this)
 have h0':0<=lv∧lv<=2:=Decidable.not_not.1 h0;have HKL:Hid (∀w,Calls Try.prog 91 #[.int .i64 lv] w fun e w'=>e=.returned (.bool true)∧w'=w):=fun w=>by
  have:=aJ lv w;rw [show decide (0<=lv∧lv<=2)=true by simpa using h0'] at this;exact this
 obtain ⟨tm,htm⟩:∃tm,ch lv-1=tm:=⟨_,rfl⟩;have HTM:Hid (∀w,Calls Try.prog 92 #[.int .i64 lv] w fun e w'=>e=.returned (.int .u64 tm)∧w'=w):=fun w=>by
  have:=dA lv w (by omega);rw [htm] at this;exact this
 by_cases h1:¬(tg<=tm)
 ·rw [show ah ⟨true,lv,tg,asd,gl,pt⟩ false=false by simp [ah];omega];exact ij lv tg asd pt tm gl w HKL HTM h1
 have h1':tg<=tm:=Decidable.not_not.1 h1;by_cases h2:¬(asd<=65535)
 ·rw [show ah ⟨true,lv,tg,asd,gl,pt⟩ false=false by simp [ah];omega];exact ik lv tg asd pt tm gl w HKL HTM h1' h2
 have h2':asd<=65535:=Decidable.not_not.1 h2;have hgood:ah ⟨true,lv,tg,asd,gl,pt⟩ false=((gl == aF pt 32) && (aw pt lv == 2)):=by
  simp only [ah,bJ];simp [h0'.1,h0'.2,h2',show tg<ch lv by omega]
 rw [hgood];obtain ⟨g5,hg5⟩:∃g5,aF pt 32=g5:=⟨_,rfl⟩;obtain ⟨gd,hgd⟩:∃gd,(aw pt lv == 2)=gd:=⟨_,rfl⟩;have HB:Hid (∀w,Calls Try.prog 93 #[.int .u64 pt,.int .u64 32] w fun e w'=>e=.returned (.bool g5)∧w'=w):=fun w=>by
  have:=bt pt 32 w;rw [bf 5 pt 32 rfl (by omega) d1 d2,hg5] at this;exact this
 have HGD:Hid (∀w,Calls Try.prog 121 #[.int .u64 pt,.int .i64 lv] w fun e w'=>e=.returned (.bool gd)∧w'=w):=fun w=>by
  have:=fz pt lv w d1 d2;rw [hgd] at this;exact this
 rw [hg5,hgd];cases hq:(gl == g5)
 ·exact il lv tg asd pt tm gl g5 w HKL HTM h1' h2' HB hq
 ·have hq':gl=g5:=by simpa using hq
  subst hq';cases gd
  ·exact im lv tg asd pt tm gl w HKL HTM h1' h2' HB HGD
  ·exact gZ lv tg asd pt tm gl w HKL HTM h1' h2' HB HGD
theorem gw (b o:Nat) (sets tag:Int) (w:World) (hs:sets=1∨sets=2∨sets=4∨sets=8) (c0:w.cell? ⟨b,o,none⟩=some (.int .i64 sets)) (ht:0<=tag) (ht1:tag<=18446744073709551615):
 Calls Try.prog 70 #[.pointer (some ⟨b,o,none⟩),.int .u64 tag] w fun e w'=>e=.returned (.int .i64 (tag%sets))∧w'=w:=by
 rcases hs with rfl | rfl | rfl | rfl;all_goals
  go_enter Try.func70,Try.ntmps70;go_wp2_with fail;go_ret;exact ⟨aC (by omega),rfl⟩
theorem co (sets ways:Int) (a:Option Addr) (n cap:Nat) (w:World) (hn:n<=1048576) (hs: -9223372036854775808<=sets∧sets<=9223372036854775807) (hw: -9223372036854775808<=ways∧ways<=9223372036854775807):
 Calls Try.prog 66 #[.agg #[.int .i64 sets,.int .i64 ways,.slice a n cap]] w fun e w'=>e=.returned (.bool (decide ((sets=1∨sets=2∨sets=4∨sets=8)∧1<=ways∧ways<=4∧(n:Int)=sets*ways)))∧Below w.heap.size w w':=by
 have n1:=(Below.refl w.heap.size w).alloc (Nat.le_refl _) (Obj.cells #[.int .i64 sets,.int .i64 ways,.slice a n cap] 29);by_cases h1:sets=1∨sets=2∨sets=4∨sets=8
 ·by_cases h2:¬(1<=ways)
  ·rcases h1 with rfl | rfl | rfl | rfl;all_goals
    go_enter Try.func66,Try.ntmps66;go_wp2_with fail;go_ret;exact ⟨ag (by simp;omega),n1⟩
  ·have h2':=Decidable.not_not.1 h2;clear h2;by_cases h3:¬(ways<=4)
   ·rcases h1 with rfl | rfl | rfl | rfl;all_goals
     go_enter Try.func66,Try.ntmps66;go_wp2_with fail;go_ret;exact ⟨ag (by simp;omega),n1⟩
   ·have h3':=Decidable.not_not.1 h3;clear h3;rcases h1 with rfl | rfl | rfl | rfl;all_goals
     go_enter Try.func66,Try.ntmps66;go_wp2_with fail;go_ret;exact ⟨ag (by simp [h2',h3'];rfl),n1⟩
 ·have h1':=h1;simp only [not_or] at h1';obtain ⟨s1,s2,s4,s8⟩:=h1';go_enter Try.func66,Try.ntmps66;go_wp2_with fail;go_ret;exact ⟨ag (by simp [h1]),n1⟩
def cC (e:EntM):Bool:=e.valid == false && e.level == 0 && e.tag == 0 && e.asid == 0 && e.glob == false && e.pte == 0
theorem gQ (v:Bool) (lv tg asd:Int) (gl:Bool) (pt:Int) (w:World):
 (binOp .eql 42 (.agg #[.bool v,.int .i64 lv,.int .u64 tg,.int .u64 asd,.bool gl,.int .u64 pt]) (.agg #[.bool false,.int .i64 0,.int .u64 0,.int .u64 0,.bool false,.int .u64 0])).run Try.prog w=.ok (.bool (cC ⟨v,lv,tg,asd,gl,pt⟩)) w:=by
 unfold cC;cases v
 case true=>(go_simp;try simp)
 by_cases h1:lv=0
 case neg=>(have q1:(lv == 0)=false:=by simpa using h1);(go_simp;try simp [q1])
 subst h1;by_cases h2:tg=0
 case neg=>(have q1:(tg == 0)=false:=by simpa using h2);(go_simp;try simp [q1])
 subst h2;by_cases h3:asd=0
 case neg=>(have q1:(asd == 0)=false:=by simpa using h3);(go_simp;try simp [q1])
 subst h3;cases gl
 case true=>(go_simp;try simp)
 by_cases h4:pt=0
 case neg=>(have q1:(pt == 0)=false:=by simpa using h4);(go_simp;try simp [q1])
 subst h4;go_simp;try simp
section
attribute [local go_sem ↓] Go.wp_at_zero Go.wp_at_succ
theorem Try.infoSlotL:(Try.prog.info? 123).map (fun i=>(i.zero,i.size,i.bytes))=some (some (.agg #[.int .i64 0,.int .u64 0,.int .u64 0,.bool false,.bool false,.int .u64 0]),6,48):=by kernel_rfl
def go (base:Nat) (w:World) (e:Ending) (t:TlbM):Prop:=
 ∃g,e=.returned (.tuple #[.agg #[.int .i64 t.sets,.int .i64 t.ways,.slice (some ⟨g,0,none⟩) t.es.length t.es.length],.bool true])∧w.ownsRow base 123 6 (.slice (some ⟨g,0,none⟩) t.es.length t.es.length) t.es.length (av t.es)
theorem iS (n:Nat) (hn:n<=1048576):∃cs:Array Value,cs.toList=av (List.replicate n aP)∧∀u:World,(Instr.makeSlice 76 (.int .i64 (n:Int)) (.int .i64 (n:Int))).run Try.prog u=.ok (.slice (some ⟨u.heap.size,0,none⟩) n n) (u.alloc (.cells cs 123)):=by
 obtain ⟨i0,hi,hz0,hz1,hz2⟩:=info_parts Try.infoSlotL;refine ⟨madeCells (Value.agg #[.int .i64 0,.int .u64 0,.int .u64 0,.bool false,.bool false,.int .u64 0]).cells (n*6),?_,fun u=>?_⟩
 ·exact eT aP n
 ·have:=run_make (P:=Try.prog) u 76 123 i0 _ Try.underlying76 hi hz0 .i64 .i64 n n (by omega) (Int.le_refl _) (by rw [hz2];omega) (by omega);rw [hz1] at this;simpa using this
theorem ez (v:Value) (t:TlbM) (w:World) (h:TlbAt w v t):
 Calls Try.prog 33 #[v] w fun e w'=>cond (ap t false) (go w.heap.size w' e t) (e=.returned (.tuple #[.agg #[.int .i64 0,.int .i64 0,.slice none 0 0],.bool false]))∧Below w.heap.size w w':=by
 obtain ⟨a,cap,rfl,hr,he,hs,hw,hl,hlc,hcm,hnil,hsp⟩:=h;obtain ⟨sets,ways,es⟩:=t;obtain ⟨n,hn⟩:∃n,es.length=n:=⟨_,rfl⟩;simp only at hr he hs hw hl hlc hnil |-;have HN:Hid (es.length=n):=hn;rw [hn] at hr hl hlc hnil |-;have HR:Hid (RowC w a n 6 (ak es)):=hr;have HE:Hid (∀e∈es,aV e):=he;obtain ⟨X,hX⟩:∃X,ap ⟨sets,ways,es⟩ false=X:=⟨_,rfl⟩;have HX:Hid (ap ⟨sets,ways,es⟩ false=X):=hX;rw [hX];clear hX hr he hnil hsp hn;have n1:=((Below.refl w.heap.size w).alloc (Nat.le_refl _) (Obj.cells #[.int .i64 sets,.int .i64 ways,.slice a n cap] 29)).alloc (by simp) (Obj.cells #[.int .i64 0,.int .i64 0,.slice none 0 0] 78);have H1:Hid (((w.alloc (Obj.cells #[.int .i64 sets,.int .i64 ways,.slice a n cap] 29)).alloc (Obj.cells #[.int .i64 0,.int .i64 0,.slice none 0 0] 78)).heap[w.heap.size]?=some (.cells #[.int .i64 sets,.int .i64 ways,.slice a n cap] 29 (0,0))):=by
  show _=_;rw [heap_alloc_old _ _ (by simp)];exact heap_alloc_new w _
 have H2:Hid (((w.alloc (Obj.cells #[.int .i64 sets,.int .i64 ways,.slice a n cap] 29)).alloc (Obj.cells #[.int .i64 0,.int .i64 0,.slice none 0 0] 78)).heap[w.heap.size+1]?=some (.cells #[.int .i64 0,.int .i64 0,.slice none 0 0] 78 (0,0))):=by
  have:=heap_alloc_new (w.alloc (Obj.cells #[.int .i64 sets,.int .i64 ways,.slice a n cap] 29)) (Obj.cells #[.int .i64 0,.int .i64 0,.slice none 0 0] 78);simp only [World.size_alloc] at this;exact this
 have l1:w.heap.size+1<((w.alloc (Obj.cells #[.int .i64 sets,.int .i64 ways,.slice a n cap] 29)).alloc (Obj.cells #[.int .i64 0,.int .i64 0,.slice none 0 0] 78)).heap.size:=by simp
 obtain ⟨sb,hsb⟩:∃sb,decide ((sets=1∨sets=2∨sets=4∨sets=8)∧1<=ways∧ways<=4∧(n:Int)=sets*ways)=sb:=⟨_,rfl⟩;have HSb:Hid (decide ((sets=1∨sets=2∨sets=4∨sets=8)∧1<=ways∧ways<=4∧(n:Int)=sets*ways)=sb):=hsb;have HSM:Hid (bP ⟨sets,ways,es⟩=sb):=by show _=_;unfold bP;simp only;rw [HN.out];exact hsb
 clear hsb;go_enter Try.func33,Try.ntmps33;go_wp2_with fail;generalize ((w.alloc (Obj.cells #[.int .i64 sets,.int .i64 ways,.slice a n cap] 29)).alloc (Obj.cells #[.int .i64 0,.int .i64 0,.slice none 0 0] 78))=v1 at n1 H1 H2 l1 |-;refine (co sets ways a n cap v1 hl hs hw).mono ?_;rw [HSb.out];rintro e v2 ⟨rfl,n2⟩;have A2:=Below.step n1 n2 (Nat.le_refl _);have K1:=aa H1 n2;have K2:=aa H2 n2;have l2:w.heap.size+1<v2.heap.size:=Nat.lt_of_lt_of_le l1 n2.size;clear n1 n2 H1 H2 l1;obtain ⟨⟨c0,c1,c2⟩,_,_,_⟩:=ao K1.out;obtain ⟨⟨d0,d1,d2⟩,e0,e1,e2⟩:=ao K2.out;cases sb
 ·have hxf:X=false:=by rw [<-HX.out];unfold ap;rw [HSM.out];rfl
  subst hxf;go_wp2_with fail;exact bodyPost_ret (v:=.tuple #[.agg #[.int .i64 0,.int .i64 0,.slice none 0 0],.bool false]) (by simp [results,Try.results33,go_sem,d0,d1,d2]) rfl ⟨rfl,dH A2 (by omega) _ _ _⟩
 ·have hsh:(sets=1∨sets=2∨sets=4∨sets=8)∧1<=ways∧ways<=4∧(n:Int)=sets*ways:=by simpa using HSb.out
  obtain ⟨hs4,hw1,hw4,hnw⟩:=hsh;have hn0:0<n:=by
   have:0<sets*ways:=Int.mul_pos (by omega) (by omega);omega
  obtain ⟨cs,hcs,hmk⟩:=iS n hl;have HCS:Hid (cs.toList=av (List.replicate n aP)):=hcs;clear hcs HSb;have HNw:Hid ((n:Int)=sets*ways):=hnw;clear hnw;have ne1:v2.heap.size≠w.heap.size:=by omega
  have ne2:v2.heap.size≠w.heap.size+1:=by omega
  have ne3:w.heap.size<v2.heap.size:=by omega
  have ne4:w.heap.size≠v2.heap.size:=by omega
  have ne5:w.heap.size≠v2.heap.size+1:=by omega
  go_wp2_with fail;go_cut [4] (fun s4 wx=>∃cb g,s4=.pointer (some ⟨cb,0,none⟩)∧v2.heap.size<=cb∧cb<wx.heap.size∧cb≠g∧wx.heap[cb]?=some (.cells #[.int .i64 sets,.int .i64 ways,.slice (some ⟨g,0,none⟩) n n] 78 (0,0))∧wx.ownsRow v2.heap.size 123 6 (.slice (some ⟨g,0,none⟩) n n) n (av (List.replicate n aP))∧Below v2.heap.size v2 wx)
  case first=>
   go_region
   ·go_wp2_with fail;go_meet;obtain ⟨q1,q2,q3,q4⟩:=eU v2 78 123 #[.int .i64 sets,.int .i64 ways,.slice (some ⟨v2.heap.size,0,none⟩) n n] cs _ n HCS.out (by rw [be];simp) (by unfold maxLen;omega);exact ⟨_,_,rfl,by omega,q4,by omega,q1,q2,q3⟩
   ·go_wp2_with fail;go_meet;obtain ⟨q1,q2,q3,q4⟩:=eV v2 78 123 #[.int .i64 sets,.int .i64 ways,.slice (some ⟨v2.heap.size+1,0,none⟩) n n] cs _ n HCS.out (by rw [be];simp) (by unfold maxLen;omega);exact ⟨_,_,rfl,Nat.le_refl _,q4,by omega,q1,q2,q3⟩
  case rest=>
   obtain ⟨cb,g,rfl,hcb,hcl,hcg,hC,hO,hbl⟩:=hcut;have HC:Hid (wc.heap[cb]?=some (.cells #[.int .i64 sets,.int .i64 ways,.slice (some ⟨g,0,none⟩) n n] 78 (0,0))):=hC;have HO:Hid (wc.ownsRow v2.heap.size 123 6 (.slice (some ⟨g,0,none⟩) n n) n (av (List.replicate n aP))):=hO;have hgg:=bs hO;obtain ⟨_,hg1,hg2⟩:=hgg;simp only at hg1 hg2;clear hC hO c0 c1 c2 d0 d1 d2 e0 e1 e2;have L1:=aa K1 hbl;obtain ⟨⟨c0,c1,c2⟩,_,_,_⟩:=ao L1.out;go_wp2_with fail;go_loopw [25] (fun i wr=>∃k:Nat,k<=n∧i=.int .i64 k∧wr.heap[cb]?=some (.cells #[.int .i64 sets,.int .i64 ways,.slice (some ⟨g,0,none⟩) n n] 78 (0,0))∧wr.ownsRow v2.heap.size 123 6 (.slice (some ⟨g,0,none⟩) n n) n (av (aG k n es))∧Below v2.heap.size v2 wr∧Hid (∀j x,j<k->es[j]?=some x->ai ⟨sets,ways,es⟩ false j x=true)) (fun i _=>n-(intOf i).toNat)
   case atStart=>exact ⟨0,Nat.zero_le _,rfl,HC.out,by rw [cN];exact HO.out,hbl,fun j x hj=>absurd hj (by omega)⟩
   case round=>
    obtain ⟨k,hk,rfl,hC,hO,hb,HA⟩:=hrel;have PC:Hid (wr.heap[cb]?=some (.cells #[.int .i64 sets,.int .i64 ways,.slice (some ⟨g,0,none⟩) n n] 78 (0,0))):=hC;have PO:Hid (wr.ownsRow v2.heap.size 123 6 (.slice (some ⟨g,0,none⟩) n n) n (av (aG k n es))):=hO;have lc:cb<wr.heap.size:=(Array.getElem?_eq_some_iff.1 hC).1;have lg:g<wr.heap.size:=(bs hO).2.2;have A3:=Below.step A2 hb (Nat.le_refl _);have P1:=aa K1 hb;have P2:=aa K2 hb;clear hC hO c0 c1 c2;by_cases hlt:k<n
    ·obtain ⟨⟨vv,lv,tg,asd,gl,pt⟩,hx⟩:∃x,es[k]?=some x:=⟨_,List.getElem?_eq_getElem (by rw [HN.out];exact hlt)⟩;obtain ⟨b,off,rfl,hbb⟩:∃b off,a=some ⟨b,off,none⟩∧b<w.heap.size:=by
      rcases HR.out.2 with h | ⟨b,off,h,h2,_⟩
      ·omega
      ·exact ⟨b,off,h,h2⟩
     have CE:∀j u,j<6->(cz ⟨vv,lv,tg,asd,gl,pt⟩)[j]?=some u->wr.cell? ⟨b,off+(k*6+j),none⟩=some u:=fun j u hj hu=>Below.cell2 A3 (ay HR.out HN.out k _ hx j u hj hu) hbb;have g0:wr.cell? ⟨b,off+k*6,none⟩=some (.bool vv):=CE 0 _ (by omega) rfl;have g1:wr.cell? ⟨b,off+k*6+1,none⟩=some (.int .i64 lv):=CE 1 _ (by omega) rfl;have g2:wr.cell? ⟨b,off+k*6+2,none⟩=some (.int .u64 tg):=CE 2 _ (by omega) rfl;have g3:wr.cell? ⟨b,off+k*6+3,none⟩=some (.int .u64 asd):=CE 3 _ (by omega) rfl;have g4:wr.cell? ⟨b,off+k*6+4,none⟩=some (.bool gl):=CE 4 _ (by omega) rfl;have g5:wr.cell? ⟨b,off+k*6+5,none⟩=some (.int .u64 pt):=CE 5 _ (by omega) rfl;have hok:aV ⟨vv,lv,tg,asd,gl,pt⟩:=HE.out _ (List.mem_of_getElem? hx);have HXk:Hid (es[k]?=some ⟨vv,lv,tg,asd,gl,pt⟩):=hx;clear CE hx;have HEq:=gQ vv lv tg asd gl pt;have n5:=(Below.refl wr.heap.size wr).alloc (Nat.le_refl _) (Obj.cells #[.bool vv,.int .i64 lv,.int .u64 tg,.int .u64 asd,.bool gl,.int .u64 pt] 42);obtain ⟨⟨c0,c1,c2⟩,_,_,_⟩:=ao P1.out;obtain ⟨zb,hzb⟩:∃zb,cC ⟨vv,lv,tg,asd,gl,pt⟩=zb:=⟨_,rfl⟩;rw [hzb] at HEq;have HZb:Hid (cC ⟨vv,lv,tg,asd,gl,pt⟩=zb):=hzb;clear hzb;have HPf:Hid (ai ⟨sets,ways,es⟩ false k ⟨vv,lv,tg,asd,gl,pt⟩=false->X=false):=fun h=>by
      rw [<-HX.out];unfold ap;rw [HSM.out];simp only [Bool.true_and];exact aX _ false es 0 k _ HXk.out (by rw [Nat.zero_add];exact h)
     have HPt:Hid (ai ⟨sets,ways,es⟩ false k ⟨vv,lv,tg,asd,gl,pt⟩=true->∀j x,j<k+1->es[j]?=some x->ai ⟨sets,ways,es⟩ false j x=true):=fun h j x hj hx'=>by
      by_cases e:j=k
      ·subst e;rw [HXk.out] at hx';cases hx';exact h
      ·exact HA.out j x (by omega) hx'
     cases zb
     ·go_wp2_with fail;generalize wr.alloc (Obj.cells #[.bool vv,.int .i64 lv,.int .u64 tg,.int .u64 asd,.bool gl,.int .u64 pt] 42)=v5 at n5 |-;obtain ⟨gd,hgd⟩:∃gd,ah ⟨vv,lv,tg,asd,gl,pt⟩ false=gd:=⟨_,rfl⟩;have HGd:Hid (ah ⟨vv,lv,tg,asd,gl,pt⟩ false=gd):=hgd;have HSl:Hid (∀u,Calls Try.prog 69 #[.agg #[.bool vv,.int .i64 lv,.int .u64 tg,.int .u64 asd,.bool gl,.int .u64 pt]] u fun e w'=>e=.returned (.tuple #[aE (if gd=true then ⟨vv,lv,tg,asd,gl,pt⟩ else aP),.bool gd])∧Below u.heap.size u w'):=fun u=>by
       have:=fh ⟨vv,lv,tg,asd,gl,pt⟩ u hok;rw [hgd] at this;exact this
      clear hgd;refine (HSl.out v5).mono ?_;have hpl:ai ⟨sets,ways,es⟩ false k ⟨vv,lv,tg,asd,gl,pt⟩=(gd && (tg%sets == (k:Int)/ways)):=by
       have hz:=HZb.out;unfold cC at hz;unfold ai;rw [HGd.out];simp only at hz |-;rw [hz,Bool.false_or]
      have HPl:Hid _:=hpl;clear hpl HSl;cases gd
      ·rintro e v6 ⟨rfl,n6⟩;have hxf:X=false:=HPf.out (by rw [HPl.out];rfl);subst hxf;simp only [aE,aP,Bool.false_eq_true,if_false];have n56:=Below.step n5 n6 (Nat.le_refl _);have Q2:=aa P2 n56;have l6:wr.heap.size<=v6.heap.size:=n56.size;have n7:=(Below.refl v6.heap.size v6).alloc (Nat.le_refl _) (Obj.cells #[.int .i64 0,.int .u64 0,.int .u64 0,.bool false,.bool false,.int .u64 0] 123);have Q3:=aa Q2 n7;have A6:=Below.step A3 (Below.step n56 n7 (Nat.le_refl _)) (Nat.le_refl _);clear g0 g1 g2 g3 g4 g5 c0 c1 c2;obtain ⟨⟨d0,d1,d2⟩,e0,e1,e2⟩:=ao Q2.out;have m1:w.heap.size+1<v6.heap.size:=by omega
       have m2:v6.heap.size≠w.heap.size+1:=by omega
       go_wp2_with fail;go_quiet (fail);go_wp2_with fail;exact bodyPost_ret (v:=.tuple #[.agg #[.int .i64 0,.int .i64 0,.slice none 0 0],.bool false]) (by simp [results,Try.results33,go_sem,d0,d1,d2,m1]) rfl ⟨rfl,dH (below_drewN A6 _) (by omega) _ _ _⟩
      ·rintro e v6 ⟨rfl,n6⟩;simp only [aE,if_true];have n56:=Below.step n5 n6 (Nat.le_refl _);have Q1:=aa P1 n56;have Q2:=aa P2 n56;have QC:=aa PC n56;have QO:Hid (v6.ownsRow v2.heap.size 123 6 (.slice (some ⟨g,0,none⟩) n n) n (av (aG k n es))):=aq PO.out n56;have l6:wr.heap.size<=v6.heap.size:=n56.size;clear g0 g1 g2 g3 g4 g5 c0 c1 c2;have n7:=(Below.refl v6.heap.size v6).alloc (Nat.le_refl _) (Obj.cells #[.int .i64 lv,.int .u64 tg,.int .u64 asd,.bool gl,.bool vv,.int .u64 pt] 123);have RS:Hid ((v6.alloc (Obj.cells #[.int .i64 lv,.int .u64 tg,.int .u64 asd,.bool gl,.bool vv,.int .u64 pt] 123)).heap[v6.heap.size]?=some (.cells #[.int .i64 lv,.int .u64 tg,.int .u64 asd,.bool gl,.bool vv,.int .u64 pt] 123 (0,0))):=heap_alloc_new v6 _;have l7:v6.heap.size<(v6.alloc (Obj.cells #[.int .i64 lv,.int .u64 tg,.int .u64 asd,.bool gl,.bool vv,.int .u64 pt] 123)).heap.size:=by simp
       have R2:=aa Q2 n7;have RC:=aa QC n7;have RO:Hid ((v6.alloc (Obj.cells #[.int .i64 lv,.int .u64 tg,.int .u64 asd,.bool gl,.bool vv,.int .u64 pt] 123)).ownsRow v2.heap.size 123 6 (.slice (some ⟨g,0,none⟩) n n) n (av (aG k n es))):=aq QO.out n7;have n57:=Below.step n56 n7 (Nat.le_refl _);have A7:=Below.step A3 n57 (Nat.le_refl _);have B7:=Below.step hb n57 (Nat.le_refl _);have m1:w.heap.size+1<v6.heap.size:=by omega
       clear n5 n6 n56 n7 n57 Q1 Q2 QC QO;go_wp2_with fail;generalize v6.alloc (Obj.cells #[.int .i64 lv,.int .u64 tg,.int .u64 asd,.bool gl,.bool vv,.int .u64 pt] 123)=v7 at RS l7 R2 RC RO A7 B7 |-;obtain ⟨⟨p0,p1,p2⟩,_,_,_⟩:=ao RC.out;obtain ⟨⟨d0,d1,d2⟩,e0,e1,e2⟩:=ao R2.out;obtain ⟨⟨s0,s1,s2,s3,s4,s5⟩,_⟩:=bi RS.out;obtain ⟨sx,hsx⟩:∃sx,tg%sets=sx:=⟨_,rfl⟩;have HSet:Hid (∀q,Calls Try.prog 70 #[.pointer (some ⟨cb,0,none⟩),.int .u64 tg] (v7.drewN q) fun e w'=>e=.returned (.int .i64 sx)∧w'=v7.drewN q):=fun q=>by
        have:=gw cb 0 sets tg (v7.drewN q) hs4 p0 hok.2.1.1 hok.2.1.2;rw [hsx] at this;exact this
       have HPl2:Hid (ai ⟨sets,ways,es⟩ false k ⟨vv,lv,tg,asd,gl,pt⟩=(sx == (k:Int)/ways)):=by
        show _=_;rw [HPl.out,hsx,Bool.true_and]
       clear hsx hok HPl;have hdv:0<=(k:Int)/ways∧(k:Int)/ways<=k:=⟨Int.ediv_nonneg (by omega) (by omega),Int.ediv_le_self _ (by omega)⟩;obtain ⟨qv,hqv⟩:∃qv,(k:Int)/ways=qv:=⟨_,rfl⟩;rw [hqv] at hdv HPl2;have hwr:wrap64 ((k:Int)/ways)=qv:=by rw [hqv];unfold wrap64;omega
       clear hqv;by_cases hne:sx=qv
       ·subst hne;go_quiet ((go_at_call 70;exact Calls.quiet_of_same (HSet.out _)));have SO:Hid ((v7.drewN nq).ownsRow v2.heap.size 123 6 (.slice (some ⟨g,0,none⟩) n n) n (av (aG k n es))):=RO;have SC:Hid ((v7.drewN nq).heap[cb]?=some (.cells #[.int .i64 sets,.int .i64 ways,.slice (some ⟨g,0,none⟩) n n] 78 (0,0))):=RC;have SS:Hid ((v7.drewN nq).heap[v6.heap.size]?=some (.cells #[.int .i64 lv,.int .u64 tg,.int .u64 asd,.bool gl,.bool vv,.int .u64 pt] 123 (0,0))):=RS;have B8:Below v2.heap.size v2 (v7.drewN nq):=below_drewN B7 nq;generalize v7.drewN nq=v8 at SO SC SS B8 |-;have hfl:(av (aG k n es)).length=n*6:=by
         have:=HN.out;subst this;rw [be,bI _ _ (by omega)]
        have q0:=aM SO.out (k*6) _ (List.getElem?_eq_getElem (by omega));have q1:=aM SO.out (k*6+1) _ (List.getElem?_eq_getElem (by omega));have q2:=aM SO.out (k*6+2) _ (List.getElem?_eq_getElem (by omega));have q3:=aM SO.out (k*6+3) _ (List.getElem?_eq_getElem (by omega));have q4:=aM SO.out (k*6+4) _ (List.getElem?_eq_getElem (by omega));have q5:=aM SO.out (k*6+5) _ (List.getElem?_eq_getElem (by omega));generalize (av (aG k n es))[k*6]'_=y0 at q0;generalize (av (aG k n es))[k*6+1]'_=y1 at q1;generalize (av (aG k n es))[k*6+2]'_=y2 at q2;generalize (av (aG k n es))[k*6+3]'_=y3 at q3;generalize (av (aG k n es))[k*6+4]'_=y4 at q4;generalize (av (aG k n es))[k*6+5]'_=y5 at q5;have r0:=aN SO.out (k*6);have r1:=aN SO.out (k*6+1);have r2:=aN SO.out (k*6+2);have r3:=aN SO.out (k*6+3);have r4:=aN SO.out (k*6+4);have r5:=aN SO.out (k*6+5);clear p0 p1 p2 d0 d1 d2 e0 e1 e2 s0 s1 s2 s3 s4 s5;obtain ⟨⟨p0,p1,p2⟩,_,_,_⟩:=ao SC.out;obtain ⟨⟨s0,s1,s2,s3,s4,s5⟩,_⟩:=bi SS.out;go_wp2_with fail;go_roundw
        case rel=>
         refine ⟨k+1,by omega,by go_num,bB SC.out (au (au (au (au (au (au (aO v8 (some g)) _ _) _ _) _ _) _ _) _ _) _ _) hcg,?_,?_,HPt.out (by rw [HPl2.out];simp)⟩
         ·have:=HN.out;subst this;rw [ck k es _ HXk.out,cE _ _ _ (by rw [bI _ _ (by omega)];exact hlt)];exact aI (aI (aI (aI (aI (aI SO.out _ _) _ _) _ _) _ _) _ _) _ _
         ·exact (((((B8.setCell (p:=⟨g,_,none⟩) hg1 _).setCell (p:=⟨g,_,none⟩) hg1 _).setCell (p:=⟨g,_,none⟩) hg1 _).setCell (p:=⟨g,_,none⟩) hg1 _).setCell (p:=⟨g,_,none⟩) hg1 _).setCell (p:=⟨g,_,none⟩) hg1 _
        case measure=>simp [intOf];omega
       ·have hne':(sx != qv)=true:=by rw [bne_iff_ne];exact hne
        have hxf:X=false:=HPf.out (by rw [HPl2.out];simpa using hne);subst hxf;go_quiet ((go_at_call 70;exact Calls.quiet_of_same (HSet.out _)));go_wp2_with fail;exact bodyPost_ret (v:=.tuple #[.agg #[.int .i64 0,.int .i64 0,.slice none 0 0],.bool false]) (by simp [results,Try.results33,go_sem,d0,d1,d2]) rfl ⟨rfl,dH (below_drewN A7 _) (by omega) _ _ _⟩
     ·have hz:=HZb.out;simp only [cC,Bool.and_eq_true,beq_iff_eq] at hz;obtain ⟨⟨⟨⟨⟨rfl,rfl⟩,rfl⟩,rfl⟩,rfl⟩,rfl⟩:=hz;go_wp2_with fail;go_roundw
      case rel=>exact ⟨k+1,by omega,by go_num,(aa PC n5).out,by
       have:=HN.out;subst this;rw [dh k es HXk.out];exact aq PO.out n5,Below.step hb n5 (Nat.le_refl _),HPt.out (by simp [ai])⟩
      case measure=>simp [intOf];omega
    ·have hkn:k=n:=by omega
     subst hkn;have hxt:X=true:=by
      rw [<-HX.out];unfold ap;rw [HSM.out];simp only [Bool.true_and];exact aW _ false es 0 (fun j x hx=>by rw [Nat.zero_add];exact HA.out j x (by have:=(List.getElem?_eq_some_iff.1 hx).1;have:=HN.out;omega) hx)
     subst hxt;obtain ⟨⟨d0,d1,d2⟩,e0,e1,e2⟩:=ao P2.out;obtain ⟨⟨p0,p1,p2⟩,_,_,_⟩:=ao PC.out;have ne6:w.heap.size+1≠cb:=by omega
     go_wp2_with fail;refine bodyPost_ret (v:=.tuple #[.agg #[.int .i64 sets,.int .i64 ways,.slice (some ⟨g,0,none⟩) k k],.bool true]) (by simp [results,Try.results33,go_sem,d0,d1,d2]) rfl ⟨⟨g,by simp only;rw [HN.out],?_⟩,dH A3 (by omega) _ _ _⟩;simp only;rw [HN.out];have:=PO.out;have hq:=HN.out;subst hq;rw [dB] at this;exact bH (cG this (gb3 wr (w.heap.size+1) _ _ _) (by omega)) (by omega)
end
end Go.Proofs.Ytfgogedgolgnaaa
